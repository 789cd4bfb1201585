import Derived.Test.YtjdmhibnhpdjaaaGreatPk01
import Derived.Deep.RegionLaw
import Derived.StillTailTactics
import Derived.Deep.MidRow
import Derived.OrdersHeld
namespace Go.Proofs.YtjdmhibnhpdjaaaGreat
open Go.RowKit
set_option linter.unusedVariables false
set_option maxHeartbeats 6400000
set_option maxRecDepth 20000
def az (va level:Int):Int:=if level=0 then va/64%8 else if level=1 then va/512%8 else va/4096%8
abbrev aT:=Int × Int × Int
def ag (zs:List Int) (va:Int):Nat->Int->Int × Int × Int × List aT
 | l,n=>
  if kc zs.length (64*n+8*az va l) 8=false then (3,l,0,[])
  else if aq (rdV zs (64*n+8*az va l) 8) l=0 then (2,l,0,[])
  else if aq (rdV zs (64*n+8*az va l) 8) l=2 then (1,l,rdV zs (64*n+8*az va l) 8,[((l:Int),64*n+8*az va l,rdV zs (64*n+8*az va l) 8)])
  else match l with
   | 0=>(2,0,0,[])
   | k+1=>((ag zs va k (jU (rdV zs (64*n+8*az va l) 8))).1,(ag zs va k (jU (rdV zs (64*n+8*az va l) 8))).2.1,(ag zs va k (jU (rdV zs (64*n+8*az va l) 8))).2.2.1,
    ((l:Int),64*n+8*az va l,rdV zs (64*n+8*az va l) 8)::(ag zs va k (jU (rdV zs (64*n+8*az va l) 8))).2.2.2)
def aB (zs:List Int) (root va:Int):Int × Int × Int × List aT:=
 if jN va=false then (2,2,0,[]) else ag zs va 2 (root%17592186044416)
def bW (kind:Int):Int:=if kind=0 then 12 else if kind=1 then 13 else 15
def aV (kind:Int):Int:=if kind=0 then 1 else if kind=1 then 5 else 7
def onM (mode satp:Int):Bool:=satp/1152921504606846976%16 == 8 && (mode == 0 || mode == 1)
def aA (satp:Int):Int:=satp/17592186044416%65536
def dh (pte level mode:Int) (sum mxr:Bool) (kind va:Int):Int × Int:=
 if jH pte kind mode sum mxr=true then (0,fz pte level va) else (bW kind,0)
def jx (r:Int × Int × Int × List aT) (mode:Int) (sum mxr:Bool) (kind va:Int):Int × Int:=
 if r.1=2 then (bW kind,0) else if r.1=3 then (aV kind,0) else dh r.2.2.1 r.2.1 mode sum mxr kind va
def mx (zs:List Int) (mode:Int) (sum mxr:Bool) (satp kind va:Int):Int × Int:=
 if kind<0∨2<kind∨mode<0∨2<mode then (63,0)
 else if onM mode satp=false then (0,va)
 else jx (aB zs satp va) mode sum mxr kind va
def ua (r:aT):List Value:=[VI r.1,VU r.2.1,VU r.2.2]
def js:List aT->List Value
 | []=>[]
 | r::rs=>ua r++js rs
theorem vX:∀rs:List aT,(js rs).length=rs.length*3
 | []=>rfl
 | r::rs=>by simp [js,ua,vX rs];omega
theorem ql:∀rs:List aT,∀u∈js rs,u.oneCell'=true
 | [],u,h=>by simp [js] at h
 | r::rs,u,h=>by
  simp only [js,List.mem_append] at h;rcases h with h | h
  ·simp [ua] at h;rcases h with rfl | rfl | rfl <;> rfl
  ·exact ql rs u h
theorem ig {w:World} {g:Nat} {T:TypeId} {a b c d:Value} (h:w.heap[g]?=some (.cells #[a,b,c,d] T (0,0))):
 (w.cell? (AD g 0)=some a∧w.cell? (AD g 1)=some b∧w.cell? (AD g 2)=some c∧w.cell? (AD g 3)=some d)∧
 (w.frozen? (AD g 0)=false∧w.frozen? (AD g 1)=false∧w.frozen? (AD g 2)=false∧w.frozen? (AD g 3)=false):=by
 simp [World.cell?,World.frozen?,h]
theorem oE (va level:Int) (w:World) (h0:0<=va) (h1:va<=18446744073709551615) (hl:0<=level) (hl':level<=2):
 Calls Tryz.prog 151 #[VU va,VI level] w fun e w'=>e=.returned (VU (az va level))∧∃n,w'=w.drewN n:=by
 rcases (show level=0∨level=1∨level=2 by omega) with rfl | rfl | rfl
 ·go_enter Tryz.func151,Tryz.ntmps151;go_wp2_with fail;refine (iQ va 6 8 64 8 w h0 h1 (by omega) (by omega) (by omega) (by omega) rfl rfl).mono ?_;rintro e w' ⟨rfl,nq,rfl⟩;go_wp2;go_ret;exact ⟨rfl,nq,rfl⟩
 ·go_enter Tryz.func151,Tryz.ntmps151;go_wp2_with fail;refine (iQ va 9 11 512 8 w h0 h1 (by omega) (by omega) (by omega) (by omega) rfl rfl).mono ?_;rintro e w' ⟨rfl,nq,rfl⟩;go_wp2;go_ret;exact ⟨rfl,nq,rfl⟩
 ·go_enter Tryz.func151,Tryz.ntmps151;go_wp2_with fail;refine (iQ va 12 14 4096 8 w h0 h1 (by omega) (by omega) (by omega) (by omega) rfl rfl).mono ?_;rintro e w' ⟨rfl,nq,rfl⟩;go_wp2;go_ret;exact ⟨rfl,nq,rfl⟩
theorem Tryz.infoRec:(Tryz.prog.info? 248).map (fun i=>(i.zero,i.size,i.bytes))=some (some (.agg #[VI 0,VU 0,VU 0]),3,24):=by kernel_rfl
theorem vY (l a v:Int) (w:World):
 Calls Tryz.prog 152 #[VI l,VU a,VU v] w fun e w'=>
  e=.returned (SL w.heap.size 1 1)∧w'=w.alloc (.cells #[VI l,VU a,VU v] 248):=by
 go_enter Tryz.func152,Tryz.ntmps152;go_wp2;go_ret;exact ⟨rfl,rfl⟩
theorem tA (va level:Int):0<=az va level∧az va level<=7:=by
 unfold az;split
 ·omega
 ·split <;> omega
theorem qY (zs:List Int) (a n:Int) (hn:n<=8) (h:∀i:Nat,0<=zs[i]?.getD 0∧zs[i]?.getD 0<=255):0<=rdV zs a n∧rdV zs a n<=18446744073709551615:=by
 unfold rdV;split
 ·have:=dW zs a.toNat n.toNat h;have hp:(256:Int)^n.toNat<=18446744073709551616:=by
   rcases (show n.toNat=0∨n.toNat=1∨n.toNat=2∨n.toNat=3∨n.toNat=4∨n.toNat=5∨n.toNat=6∨n.toNat=7∨n.toNat=8 by omega) with h | h | h | h | h | h | h | h | h <;> rw [h] <;> decide
  omega
 ·omega
theorem FW {v:World} {p:Nat} {T:TypeId} {a b c d u:Value} (h:v.heap[p]?=some (.cells #[a,b,c,d] T (0,0))):(v.setCell (AD p 3) u).heap[p]?=some (.cells #[a,b,c,u] T (0,0)):=by
 simp [World.setCell,Array.getElem?_modify,h]
theorem gb4 (v:World) (g:Nat) (x y z u:Value):v.grownBy ((((v.setCell (AD g 0) x).setCell (AD g 1) y).setCell (AD g 2) z).setCell (AD g 3) u) (some g):=
 hZ (hZ (hZ (hZ (aM v (some g)) 0 x) 1 y) 2 z) 3 u
theorem sq {B:Nat} {a w:World} {g:Nat} (h:Below B a w) (hg:B<=g) (x y z u:Value):Below B a ((((w.setCell (AD g 0) x).setCell (AD g 1) y).setCell (AD g 2) z).setCell (AD g 3) u):=
 (((h.setCell (p:=(AD g 0)) hg x).setCell (p:=(AD g 1)) hg y).setCell (p:=(AD g 2)) hg z).setCell (p:=(AD g 3)) hg u
theorem Ec (V:World) (g:Nat) (hg:V.heap.size=g) (e:TypeId) (n size:Nat) (cs:List Value) (hn:cs.length=n*size) (hm:n<=maxLen):RowC (V.alloc (.cells cs.toArray e)).drew (some (AD g 0)) n size cs:=by
 subst hg;exact (OwnC.new e size V cs n hn hm).row
def pH (base:Nat) (w':World) (e:Ending) (r:Int × Int × Int × List aT):Prop:=
 ∃a cap,e=.returned (.agg #[VI r.1,VI r.2.1,VU r.2.2.1,.slice a r.2.2.2.length cap])∧RowC w' a r.2.2.2.length 3 (js r.2.2.2)∧
  (a=none->r.2.2.2.length=0∧cap=0)∧(∀q,a=some q->q.spot=none∧base<=q.block)∧r.2.2.2.length<=cap
theorem tB (x:Int):0<=jU x∧jU x<17592186044416:=⟨Int.emod_nonneg _ (by omega),Int.emod_lt_of_pos _ (by omega)⟩
theorem eN (p l:Int):aq p l=0∨aq p l=1∨aq p l=2:=by
 unfold aq;split
 ·exact .inl rfl
 ·split
  ·split
   ·exact .inl rfl
   ·exact .inr (.inl rfl)
  ·split
   ·exact .inl rfl
   ·exact .inr (.inr rfl)
theorem cF (p:Int):aq p 0≠1:=by
 unfold aq;split
 ·simp
 ·split
  ·simp
  ·split <;> simp
theorem ae {B:Nat} {w w':World} {g:Nat} {o:Obj} (h:w.heap[g]?=some o) (hb:Below B w w') (hg:g<B):w'.heap[g]?=some o:=by rw [hb.block g hg,h]
theorem ub (a:Option Addr) (len cap:Nat) (zs:List Int) (va lv n ix rv:Int) (w:World) (hl:len<=1048576) (hc:len<=cap) (hm:cap<=9223372036854775807) (hv0:0<=va) (hv1:va<=18446744073709551615)
 (h0:0<=lv) (h2:lv<=2) (hn0:0<=n) (hn1:n<17592186044416) (hB:Byt w a len zs) (hix:Hid (az va lv=ix)) (hib:0<=ix∧ix<=7) (hrv:Hid (rdV zs (64*n+8*ix) 8=rv)) (hrb:0<=rv∧rv<=18446744073709551615)
 (hg:Hid (kc len (64*n+8*ix) 8=false)):
 Calls Tryz.prog 133 #[.slice a len cap,VU n,VI lv,VU va] w fun e w'=>pH w.heap.size w' e (3,lv,0,[])∧Bw w w':=by
 have hz:=hB.1;obtain ⟨v1,Ev1,n1,H8,l1⟩:=al1 w #[VI 0,VI 0,VU 0,SN] 238;go_enter Tryz.func133,Tryz.ntmps133;go_wp2_with fail;rw [Ev1.out];clear Ev1;refine (oE va lv v1 hv0 hv1 h0 h2).mono ?_;rintro e w' ⟨rfl,nq,rfl⟩;rw [hix.out];have n2:=below_drewN n1 nq;have H9:Hid ((v1.drewN nq).heap[w.heap.size]?=some (.cells #[VI 0,VI 0,VU 0,SN] 238 (0,0))):=H8;have l2:w.heap.size<(v1.drewN nq).heap.size:=l1;generalize v1.drewN nq=v2 at n2 H9 l2 |-;clear H8 l1 n1;go_wp2_with fail;refine (lU a len cap zs (64*n+8*ix) 8 v2 (hB.keep n2) hl hc hm (by omega) (by omega) (by omega)).mono ?_;rintro e v3 ⟨rfl,n3⟩;rw [hrv.out,hg.out];have n13:=bst n2 n3;have H10:Hid (v3.heap[w.heap.size]?=some (.cells #[VI 0,VI 0,VU 0,SN] 238 (0,0))):=ae H9.out n3 l2;have l3:w.heap.size<v3.heap.size:=ltl l2 n3.size;clear H9 n2 n3 l2;obtain ⟨⟨d0,d1,d2,d3⟩,e0,e1,e2,e3⟩:=ig H10.out;go_wp2_with fail;refine bodyPost_ret (v:=.agg #[VI 3,VI lv,VU 0,SN]) (by simp [results,Tryz.results133,go_sem,d0,d1,d2,d3,l3]) rfl ⟨⟨none,0,rfl,RowC.nil _ _ _,fun _=>⟨rfl,rfl⟩,(by intro q hq;cases hq),Nat.zero_le _⟩,?_⟩;exact (sq n13 nle _ _ _ _).alloc (by simpa [World.setCell] using n13.size) _
theorem uc (a:Option Addr) (len cap:Nat) (zs:List Int) (va lv n ix rv:Int) (w:World) (hl:len<=1048576) (hc:len<=cap) (hm:cap<=9223372036854775807) (hv0:0<=va) (hv1:va<=18446744073709551615)
 (h0:0<=lv) (h2:lv<=2) (hn0:0<=n) (hn1:n<17592186044416) (hB:Byt w a len zs) (hix:Hid (az va lv=ix)) (hib:0<=ix∧ix<=7) (hrv:Hid (rdV zs (64*n+8*ix) 8=rv)) (hrb:0<=rv∧rv<=18446744073709551615)
 (hg:Hid (kc len (64*n+8*ix) 8=true)) (hk:Hid (aq rv lv=0)):
 Calls Tryz.prog 133 #[.slice a len cap,VU n,VI lv,VU va] w fun e w'=>pH w.heap.size w' e (2,lv,0,[])∧Bw w w':=by
 have hz:=hB.1;obtain ⟨v1,Ev1,n1,H8,l1⟩:=al1 w #[VI 0,VI 0,VU 0,SN] 238;go_enter Tryz.func133,Tryz.ntmps133;go_wp2_with fail;rw [Ev1.out];clear Ev1;refine (oE va lv v1 hv0 hv1 h0 h2).mono ?_;rintro e w' ⟨rfl,nq,rfl⟩;rw [hix.out];have n2:=below_drewN n1 nq;have H9:Hid ((v1.drewN nq).heap[w.heap.size]?=some (.cells #[VI 0,VI 0,VU 0,SN] 238 (0,0))):=H8;have l2:w.heap.size<(v1.drewN nq).heap.size:=l1;generalize v1.drewN nq=v2 at n2 H9 l2 |-;clear H8 l1 n1;go_wp2_with fail;refine (lU a len cap zs (64*n+8*ix) 8 v2 (hB.keep n2) hl hc hm (by omega) (by omega) (by omega)).mono ?_;rintro e v3 ⟨rfl,n3⟩;rw [hrv.out,hg.out];have n13:=bst n2 n3;have H10:Hid (v3.heap[w.heap.size]?=some (.cells #[VI 0,VI 0,VU 0,SN] 238 (0,0))):=ae H9.out n3 l2;have l3:w.heap.size<v3.heap.size:=ltl l2 n3.size;clear H9 n2 n3 l2;go_wp2_with fail;have a4:=lj v3 #[Value.bool true,VU rv] 164;generalize v3.alloc (Obj.cells #[Value.bool true,VU rv] 164)=v4 at a4 |-;obtain ⟨l4,c4,n4⟩:=a4;have c41:v4.cell? (AD v3.heap.size 1)=some (VU rv):=c4 1;have n14:=bst n13 n4;have H11:Hid (v4.heap[w.heap.size]?=some (.cells #[VI 0,VI 0,VU 0,SN] 238 (0,0))):=ae H10.out n4 l3;clear c4 n13 n4 H10;refine (lx rv lv v4 hrb.1 hrb.2 (by omega) (by omega)).mono ?_;rintro e w' ⟨rfl,nk,rfl⟩;rw [hk.out];have n15:Bw w (v4.drewN nk):=below_drewN n14 nk;have c51:(v4.drewN nk).cell? (AD v3.heap.size 1)=some (VU rv):=c41;have H12:Hid ((v4.drewN nk).heap[w.heap.size]?=some (.cells #[VI 0,VI 0,VU 0,SN] 238 (0,0))):=H11;have l5:v3.heap.size<(v4.drewN nk).heap.size:=l4;generalize v4.drewN nk=v5 at n15 c51 H12 l5 |-;clear n14 c41 H11 l4;obtain ⟨⟨d0,d1,d2,d3⟩,e0,e1,e2,e3⟩:=ig H12.out;go_wp2_with fail;refine bodyPost_ret (v:=.agg #[VI 2,VI lv,VU 0,SN]) (by simp [results,Tryz.results133,go_sem,d0,d1,d2,d3]) rfl ⟨⟨none,0,rfl,RowC.nil _ _ _,fun _=>⟨rfl,rfl⟩,(by intro q hq;cases hq),Nat.zero_le _⟩,?_⟩;exact sq n15 nle _ _ _ _
theorem sW (a:Option Addr) (len cap:Nat) (zs:List Int) (va lv n ix rv:Int) (w:World) (hl:len<=1048576) (hc:len<=cap) (hm:cap<=9223372036854775807) (hv0:0<=va) (hv1:va<=18446744073709551615)
 (h0:0<=lv) (h2:lv<=2) (hn0:0<=n) (hn1:n<17592186044416) (hB:Byt w a len zs) (hix:Hid (az va lv=ix)) (hib:0<=ix∧ix<=7) (hrv:Hid (rdV zs (64*n+8*ix) 8=rv)) (hrb:0<=rv∧rv<=18446744073709551615)
 (hg:Hid (kc len (64*n+8*ix) 8=true)) (hk:Hid (aq rv lv=2)):
 Calls Tryz.prog 133 #[.slice a len cap,VU n,VI lv,VU va] w fun e w'=>pH w.heap.size w' e (1,lv,rv,[(lv,64*n+8*ix,rv)])∧Bw w w':=by
 have hz:=hB.1;obtain ⟨v1,Ev1,n1,H8,l1⟩:=al1 w #[VI 0,VI 0,VU 0,SN] 238;go_enter Tryz.func133,Tryz.ntmps133;go_wp2_with fail;rw [Ev1.out];clear Ev1;refine (oE va lv v1 hv0 hv1 h0 h2).mono ?_;rintro e w' ⟨rfl,nq,rfl⟩;rw [hix.out];have n2:=below_drewN n1 nq;have H9:Hid ((v1.drewN nq).heap[w.heap.size]?=some (.cells #[VI 0,VI 0,VU 0,SN] 238 (0,0))):=H8;have l2:w.heap.size<(v1.drewN nq).heap.size:=l1;generalize v1.drewN nq=v2 at n2 H9 l2 |-;clear H8 l1 n1;go_wp2_with fail;refine (lU a len cap zs (64*n+8*ix) 8 v2 (hB.keep n2) hl hc hm (by omega) (by omega) (by omega)).mono ?_;rintro e v3 ⟨rfl,n3⟩;rw [hrv.out,hg.out];have n13:=bst n2 n3;have H10:Hid (v3.heap[w.heap.size]?=some (.cells #[VI 0,VI 0,VU 0,SN] 238 (0,0))):=ae H9.out n3 l2;have l3:w.heap.size<v3.heap.size:=ltl l2 n3.size;clear H9 n2 n3 l2;go_wp2_with fail;have a4:=lj v3 #[Value.bool true,VU rv] 164;generalize v3.alloc (Obj.cells #[Value.bool true,VU rv] 164)=v4 at a4 |-;obtain ⟨l4,c4,n4⟩:=a4;have c41:v4.cell? (AD v3.heap.size 1)=some (VU rv):=c4 1;have n14:=bst n13 n4;have H11:Hid (v4.heap[w.heap.size]?=some (.cells #[VI 0,VI 0,VU 0,SN] 238 (0,0))):=ae H10.out n4 l3;clear c4 n13 n4 H10;refine (lx rv lv v4 hrb.1 hrb.2 (by omega) (by omega)).mono ?_;rintro e w' ⟨rfl,nk,rfl⟩;rw [hk.out];have n15:Bw w (v4.drewN nk):=below_drewN n14 nk;have c51:(v4.drewN nk).cell? (AD v3.heap.size 1)=some (VU rv):=c41;have H12:Hid ((v4.drewN nk).heap[w.heap.size]?=some (.cells #[VI 0,VI 0,VU 0,SN] 238 (0,0))):=H11;have l5:v3.heap.size<(v4.drewN nk).heap.size:=l4;generalize v4.drewN nk=v5 at n15 c51 H12 l5 |-;clear n14 c41 H11 l4;obtain ⟨⟨d0,d1,d2,d3⟩,e0,e1,e2,e3⟩:=ig H12.out;have l6:w.heap.size<v5.heap.size:=Nat.lt_trans l3 l5;have ne1:v5.heap.size≠v3.heap.size:=by omega
 have ne2:w.heap.size≠v3.heap.size:=by omega
 have ne3:v3.heap.size≠w.heap.size:=by omega
 go_wp2;go_region_held3 (fun w'=>w'.cell? (AD v3.heap.size 1)=some (VU rv)) (go_keep)
  (first | (go_at_call 152;refine (vY _ _ _ _).mono ?_;rintro e w' ⟨rfl,rfl⟩))
 go_wp2_with fail;refine bodyPost_ret (v:=.agg #[VI 1,VI lv,VU rv,SL v5.heap.size 1 1]) (by simp [results,Tryz.results133,go_sem,d0,d1,d2,d3,l6]) rfl
  ⟨⟨some (AD v5.heap.size 0),1,rfl,Ec _ _ (by simp [World.setCell]) _ 1 3 (js [(lv,64*n+8*ix,rv)]) (vX _) (by decide),(by intro h;cases h),(by intro q hq;cases hq;exact ⟨rfl,Nat.le_of_lt l6⟩),nle⟩,?_⟩
 exact ((sq n15 nle _ _ _ _).alloc (by simpa [World.setCell] using n15.size) _).drew
theorem ij {v:World} {p:Nat} {T:TypeId} {a b c:Value} (h:v.heap[p]?=some (.cells #[a,b,c] T (0,0))):
 (v.cell? (AD p 0)=some a∧v.cell? (AD p 1)=some b∧v.cell? (AD p 2)=some c)∧v.frozen? (AD p 0)=false∧v.frozen? (AD p 1)=false∧v.frozen? (AD p 2)=false:=by
 simp [World.cell?,World.frozen?,h]
theorem EH {v:World} {p:Nat} {T:TypeId} {a b c u:Value} (h:v.heap[p]?=some (.cells #[a,b,c] T (0,0))):(v.setCell (AD p 0) u).heap[p]?=some (.cells #[u,b,c] T (0,0)):=by
 simp [World.setCell,Array.getElem?_modify,h]
theorem EI {v:World} {p:Nat} {T:TypeId} {a b c u:Value} (h:v.heap[p]?=some (.cells #[a,b,c] T (0,0))):(v.setCell (AD p 2) u).heap[p]?=some (.cells #[a,b,u] T (0,0)):=by
 simp [World.setCell,Array.getElem?_modify,h]
theorem gb3 (v:World) (g:Nat) (x y z:Value):v.grownBy (((v.setCell (AD g 0) x).setCell (AD g 1) y).setCell (AD g 2) z) (some g):=
 hZ (hZ (hZ (aM v (some g)) 0 x) 1 y) 2 z
theorem lA {B:Nat} {a w:World} {g:Nat} (h:Below B a w) (hg:B<=g) (x y z:Value):Below B a (((w.setCell (AD g 0) x).setCell (AD g 1) y).setCell (AD g 2) z):=
 ((h.setCell (p:=(AD g 0)) hg x).setCell (p:=(AD g 1)) hg y).setCell (p:=(AD g 2)) hg z
theorem ir {e:TypeId} {size:Nat} {w:World} {base base' n:Nat} {v:Value} {cs:List Value} (h:w.ownsRow base e size v n cs) (hb:base'<=base):w.ownsRow base' e size v n cs:=by
 obtain ⟨h1,h2⟩:=h;refine ⟨h1,?_⟩;rcases h2 with h2 | ⟨g,cap,cur,h2,hb',r⟩
 ·exact .inl h2
 ·exact .inr ⟨g,cap,cur,h2,by omega,r⟩
theorem aD {e:TypeId} {size:Nat} {w w':World} {base n r:Nat} {v:Value} {cs:List Value} (h:w.ownsRow base e size v n cs) (hg:w.grownBy w' (some r)) (hr:r<base):w'.ownsRow base e size v n cs:=by
 refine h.kept hg ?_;rcases h.2 with ⟨rfl,_⟩ | ⟨g,cap,cur,rfl,hb',_⟩
 ·exact .inl rfl
 ·refine .inr ?_;simp [Value.ownBlock];omega
theorem ab {e:TypeId} {size:Nat} {w w':World} {base n:Nat} {v:Value} {cs:List Value} (h:w.ownsRow base e size v n cs) (hb:Bw w w'):w'.ownsRow base e size v n cs:=by
 obtain ⟨h1,h2⟩:=h;refine ⟨h1,?_⟩;rcases h2 with h2 | ⟨g,cap,cur,h2,hb',hg,r⟩
 ·exact .inl h2
 ·refine .inr ⟨g,cap,cur,h2,hb',?_,r⟩;exact ae hg hb (hpl hg)
theorem ta {P:Program} (w:World) {o:Oper} {a:Act} {K:Act->World->Prop} {Q:Exit->Act->World->Prop} (s x:Operand) (t:TypeId)
 (ho:o.op=.call { callee:=.builtin .append,args:=#[s,x],argTypes:=#[t,t] }) (e:TypeId) (ht:P.underlying t=some (.slice e)) (z:Value) (size bytes:Nat)
 (hi:(P.info? e).map (fun i=>(i.zero,i.size,i.bytes))=some (some z,size,bytes)) (hzs:z.cells.size=size) (hsz:0<size)
 (base n:Nat) (v:Value) (cs:List Value) (hs:a.eval s=v) (hown:w.ownsRow base e size v n cs)
 (b off m c:Nat) (ys:List Value) (hx:a.eval x=.slice (some (AD b off)) m c) (hm:0<m) (hy:RowC w (some (AD b off)) m size ys) (h1:∀u∈ys,u.oneCell'=true)
 (hbd:(n+m)*bytes<=140737488355328) (hbd':n+m<=9223372036854775807)
 (hbw:base<=w.heap.size) (B:Nat) (W:World) (hb:Below B W w) (hB:B<=base)
 (h:∀g' cap' w',w'.ownsRow base e size (SL g' (n+m) cap') (n+m) (cs++ys)->Below B W w'->K (a.put o.dst (SL g' (n+m) cap')) w'):o.wp P a w K Q:=by
 obtain ⟨i0,hi,hz0,hz1,hz2⟩:=info_parts hi;refine wp_append_own w s x t ho base e i0 z size bytes ht hi hz0 hz1 hz2 hzs hsz v n _ hs hown (AD b off) m c ys hx hy.1 (ru hy) h1 (by unfold maxLen;omega) hbd (by omega) ?_;intro v' w' h1 h2 h3;have hbl:=hb.grown h2 (by omega) (fun k hk=>by have:=(hown.lt k hk).1;omega);rcases h1.2 with ⟨e1,e2⟩ | ⟨g,cap,cur,e1,r⟩
 ·omega
 ·subst e1;exact h g cap w' h1 hbl
theorem pV {P:Program} (w:World) {ops:Array Oper} {rest:List Oper} {o:Oper} {a:Act} {Q:Exit->Act->World->Prop} (hgd:o.guard=none) (s x:Operand) (t:TypeId)
 (ho:o.op=.call { callee:=.builtin .append,args:=#[s,x],argTypes:=#[t,t] }) (e:TypeId) (ht:P.underlying t=some (.slice e)) (z:Value) (size bytes:Nat)
 (hi:(P.info? e).map (fun i=>(i.zero,i.size,i.bytes))=some (some z,size,bytes)) (hzs:z.cells.size=size) (hsz:0<size)
 (base n:Nat) (v:Value) (cs:List Value) (hs:a.eval s=v) (hown:w.ownsRow base e size v n cs)
 (b off m c:Nat) (ys:List Value) (hx:a.eval x=.slice (some (AD b off)) m c) (hm:0<m) (hy:RowC w (some (AD b off)) m size ys) (h1:∀u∈ys,u.oneCell'=true)
 (hbd:(n+m)*bytes<=140737488355328) (hbd':n+m<=9223372036854775807)
 (hbw:base<=w.heap.size) (B:Nat) (W:World) (hb:Below B W w) (hB:B<=base)
 (h:∀g' cap' w',w'.ownsRow base e size (SL g' (n+m) cap') (n+m) (cs++ys)->Below B W w'->wpList P ops Q rest (a.put o.dst (SL g' (n+m) cap')) w'):wpList P ops Q (o::rest) a w:=
 wpList_plain hgd fun _ hK=>ta w s x t ho e ht z size bytes hi hzs hsz base n v cs hs hown b off m c ys hx hm hy h1 hbd hbd' hbw B W hb hB fun g' cap' w' h2 h3=>hK _ _ (h g' cap' w' h2 h3)
theorem oy {e:TypeId} {size:Nat} {w:World} {base n:Nat} {v:Value} {cs:List Value} (h:w.ownsRow base e size v n cs):w.drew.ownsRow base e size v n cs:=h
def CurAt (e:TypeId) (w:World) (g m:Nat) (cs:List Value):Prop:=cs.length=m∧∃cur,w.heap[g]?=some (.cells cur e (0,0))∧cur.toList.take m=cs
theorem CurAt.lt {e:TypeId} {w:World} {g m:Nat} {cs:List Value} (h:CurAt e w g m cs):g<w.heap.size:=by
 obtain ⟨_,cur,h2,_⟩:=h;exact (hpl h2)
theorem CurAt.cell {e:TypeId} {w:World} {g m:Nat} {cs:List Value} (h:CurAt e w g m cs) (j:Nat) (u:Value) (hj:cs[j]?=some u):w.cell? (AD g j)=some u:=by
 obtain ⟨h1,cur,h2,h3⟩:=h;subst h3;rw [List.getElem?_take] at hj;split at hj
 ·simp only [World.cell?,h2];simpa using hj
 ·cases hj
theorem CurAt.free {e:TypeId} {w:World} {g m:Nat} {cs:List Value} (h:CurAt e w g m cs) (j:Nat):w.frozen? (AD g j)=false:=by
 obtain ⟨h1,cur,h2,h3⟩:=h;simp [World.frozen?,h2]
theorem CurAt.store {e:TypeId} {w:World} {g m:Nat} {cs:List Value} (h:CurAt e w g m cs) (j:Nat) (u:Value):CurAt e (w.setCell (AD g j) u) g m (cs.set j u):=by
 obtain ⟨h1,cur,h2,h3⟩:=h;refine ⟨by simpa using h1,cur.setIfInBounds j u,by simp [World.setCell,Array.getElem?_modify,h2],?_⟩;subst h3;rw [Array.toList_setIfInBounds,List.take_set]
theorem CurAt.gb {e:TypeId} {w w':World} {g m r:Nat} {cs:List Value} (h:CurAt e w g m cs) (hg:w.grownBy w' (some r)) (hne:g≠r):CurAt e w' g m cs:=by
 obtain ⟨h1,cur,h2,h3⟩:=h;exact ⟨h1,cur,aL h2 hg hne,h3⟩
theorem CurAt.of_own {e:TypeId} {size:Nat} {w:World} {base g n cap:Nat} {cs:List Value} (h:w.ownsRow base e size (SL g n cap) n cs):CurAt e w g (n*size) cs∧base<=g:=by
 obtain ⟨h1,h2⟩:=h;rcases h2 with ⟨h2,_⟩ | ⟨g',cap',cur,h2,hb,hg,_,_,_,ht⟩
 ·cases h2
 ·cases h2;exact ⟨⟨h1,cur,hg,ht⟩,hb⟩
theorem dq {e:TypeId} {size:Nat} {w:World} {base n:Nat} {a:Option Addr} {cap:Nat} {cs:List Value} (h:w.ownsRow base e size (.slice a n cap) n cs):RowC w a n size cs:=by
 cases a with
 | none=>
  obtain ⟨h1,h2⟩:=h;rcases h2 with ⟨_,h2⟩ | ⟨g',cap',cur,h2,_⟩
  ·subst h2;exact ⟨h1,.inl rfl⟩
  ·cases h2
 | some q=>
  have hq:q=(AD q.block 0):=by
   obtain ⟨h1,h2⟩:=h;rcases h2 with ⟨h2,_⟩ | ⟨g',cap',cur,h2,_⟩
   ·cases h2
   ·cases h2;rfl
  rw [hq] at h |-;have:=CurAt.of_own h;refine ⟨h.1,.inr ⟨q.block,0,rfl,this.1.lt,fun i u hu=>?_⟩⟩;rw [Nat.zero_add];exact this.1.cell i u hu
theorem eh {e:TypeId} {size:Nat} {w:World} {base n cap:Nat} {q:Addr} {cs:List Value} (h:w.ownsRow base e size (.slice (some q) n cap) n cs):q=(AD q.block 0)∧base<=q.block∧q.block<w.heap.size:=by
 rcases h.2 with ⟨h2,_⟩ | ⟨g',cap',cur,h2,hb,hg,_⟩
 ·cases h2
 ·cases h2;exact ⟨rfl,hb,(hpl hg)⟩
theorem jX {a b c:World} {r:Option Nat} (h:a.grownBy b r) (k:b.grownBy c r):a.grownBy c r:=
 ⟨k.os.trans h.os,k.tape.trans h.tape,k.output.trans h.output,Nat.le_trans h.size k.size,fun i hi hn=>(k.block i (ltl hi h.size) hn).trans (h.block i hi hn)⟩
theorem gZ {w w':World} {b:Nat} {o:Obj} (h:Hid (w.heap[b]?=some o)) (n:Bw w w'):Hid (w'.heap[b]?=some o):=ae h.out n (hpl h.out)
theorem eX {e:TypeId} {size:Nat} {w:World} {base g n cap:Nat} {cs:List Value} (h:w.ownsRow base e size (SL g n cap) n cs) (j:Nat) (u:Value):
 (w.setCell (AD g j) u).ownsRow base e size (SL g n cap) n (cs.set j u):=by
 obtain ⟨h1,h2⟩:=h;refine ⟨by simpa using h1,?_⟩;rcases h2 with ⟨h2,_⟩ | ⟨g',cap',cur,h2,hb,hg,hc1,hc2,hc3,ht⟩
 ·cases h2
 ·cases h2;refine .inr ⟨g,cap,cur.setIfInBounds j u,rfl,hb,by simp [World.setCell,Array.getElem?_modify,hg],hc1,hc2,by simpa using hc3,?_⟩;subst ht;rw [Array.toList_setIfInBounds,List.take_set]
theorem il {e:TypeId} {size:Nat} {w:World} {base g n cap:Nat} {cs:List Value} (h:w.ownsRow base e size (SL g n cap) n cs) (j:Nat) (u:Value) (hj:cs[j]?=some u):w.cell? (AD g j)=some u:=
 (CurAt.of_own h).1.cell j u hj
theorem iy {e:TypeId} {size:Nat} {w:World} {base g n cap:Nat} {cs:List Value} (h:w.ownsRow base e size (SL g n cap) n cs) (j:Nat):w.frozen? (AD g j)=false:=
 (CurAt.of_own h).1.free j
theorem li {a b c:World} {r:Option Nat} (h:a.grownBy b r) (k:Bw b c):a.grownBy c r:=
 ⟨k.os.trans h.os,k.tape.trans h.tape,k.output.trans h.output,Nat.le_trans h.size k.size,fun i hi hn=>(k.block i (ltl hi h.size)).trans (h.block i hi hn)⟩
theorem rL {a b:World} {r g o:Nat} {x:Option Value} (h:a.grownBy b (some r)) (hc:a.cell? (AD g o)=x) (hg:g<a.heap.size) (hne:g≠r):b.cell? (AD g o)=x:=
 (World.cell?_of_block (h.block g hg (by simpa using hne))).trans hc
theorem Dj {a b:World} {r n size:Nat} {q:Option Addr} {cs:List Value} (h:RowC a q n size cs) (hg:a.grownBy b (some r)) (hr:a.heap.size<=r∨∀x,q=some x->x.block≠r):RowC b q n size cs:=by
 obtain ⟨h1,h2⟩:=h;refine ⟨h1,?_⟩;rcases h2 with h2 | ⟨bk,off,rfl,hlt,hc⟩
 ·exact .inl h2
 ·refine .inr ⟨bk,off,rfl,ltl hlt hg.size,fun i u hu=>?_⟩;exact rL hg (hc i u hu) hlt (by
   rcases hr with hr | hr
   ·omega
   ·exact hr _ rfl)
theorem jG {P:Program} {id:Nat} {Q:Exit->Act->World->Prop} {a:Act} {w:World} {l:List Oper} (n:Nat) (hm:P.follows .mixedOrders=true) (hB:Region.lexTailB .any l.toArray n=true)
 (h:wpStill P l.toArray w.drew (fun a'=>wpList P l.toArray Q (l.drop n) a' w.drew) (l.take n) a):(Code.region id l.toArray true).wp P Q a w:=
 wp_region_still_tail n hm hB h
structure Lies (v:World) where
 w:World
 h:Bw v w
theorem jF (v:World):Nonempty (Lies v):=⟨⟨v,brf⟩⟩
theorem jm {P:Program} {f:FuncId} {args:Array Value} {v:World} (u:Lies v) {x:Value} (h:Calls P f args u.w fun e w'=>e=.returned x∧Below u.w.heap.size u.w w'):
 Calls P f args u.w fun e w''=>e=.returned x∧∃u':Lies v,w''=u'.w:=
 h.mono fun e w' ⟨he,hb⟩=>⟨he,⟨w',bst u.h hb⟩,rfl⟩
theorem nI {P:Program} {f:FuncId} {args:Array Value} {v:World} (u:Lies v) {x:Value} (h:Calls P f args u.w fun e w'=>e=.returned x∧w'=u.w):
 Calls P f args u.w fun e w''=>e=.returned x∧∃u':Lies v,w''=u'.w:=
 h.mono fun e w' ⟨he,hb⟩=>⟨he,u,hb⟩
theorem vM {P:Program} {f:FuncId} {args:Array Value} {v:World} (u:Lies v) {x:Value} (h:Calls P f args u.w fun e w'=>e=.returned x∧∃n,w'=u.w.drewN n):
 Calls P f args u.w fun e w''=>e=.returned x∧∃u':Lies v,w''=u'.w:=
 h.mono fun e w' ⟨he,n,hb⟩=>⟨he,⟨w',by rw [hb];exact below_drewN u.h n⟩,rfl⟩
theorem io {v:World} {b o:Nat} {x:Value} (hc:v.cell? (AD b o)=some x) (hb:b<v.heap.size) (u:Lies v):u.w.cell? (AD b o)=some x:=Below.cell2 u.h hc hb
theorem iR {P:Program} {id:Nat} {Q:Exit->Act->World->Prop} {a:Act} {w:World} {l:List Oper} (hm:P.follows .mixedOrders=true) (hB:Region.lexB .any l.toArray=true)
 (h:wpQuiet P l.toArray (fun w'=>∃u:Lies w,w'=u.w) (fun a'=>∀w',(∃u:Lies w,w'=u.w)->Q .normal a' w') l a):(Code.region id l.toArray true).wp P Q a w:=
 wp_region_quiet (C:=fun w'=>∃u:Lies w,w'=u.w) hm hB ⟨⟨w.drew,(brf).drew⟩,rfl⟩ (by simpa using h)
theorem dK (n:Nat):∀(x:Int) (w:World),n<=8->0<=x->x<=18446744073709551615->
 Calls Tryz.prog 62 #[VU x,VI n] w fun e w'=>
  ∃g cap,e=.returned (SL g n cap)∧OwnB 5 w' w.heap.size g n cap (jt x n)∧Bw w w':=by
 induction n with
 | zero=>
  intro x w hn h0 h1;go_enter Tryz.func62,Tryz.ntmps62;go_wp2;go_ret;exact ⟨_,_,rfl,OwnB.new _ _ [] 0 rfl (by decide),(brf).alloc nle _⟩
 | succ n ih=>
  intro x w hn h0 h1;have hp:(((n+1:Nat):Int) == 0)=false:=by simp;omega
  have IH:Hid (∀(x:Int) (w:World),n<=8->0<=x->x<=18446744073709551615->
   Calls Tryz.prog 62 #[VU x,VI n] w fun e w'=>
    ∃g cap,e=.returned (SL g n cap)∧OwnB 5 w' w.heap.size g n cap (jt x n)∧Bw w w'):=ih
  clear ih;go_enter Tryz.func62,Tryz.ntmps62;go_wp2_with fail;have o1:=OwnB.new 5 w [x%256] 1 rfl (by decide);have n1:Bw w (w.alloc (Obj.cells #[Value.int IntKind.u8 (x%256)] 5)):=(brf).alloc nle _;simp only [List.map_cons,List.map_nil] at o1;generalize w.alloc (Obj.cells #[Value.int IntKind.u8 (x%256)] 5)=v1 at o1 n1 |-;refine (IH.out (x/256) v1 (by omega) (by omega) (by omega)).mono ?_;rintro e v2 ⟨g,cap,rfl,o2,n2⟩;have o3:=o1.keep n2 o1.facts.2.2.1;have f2:=o2.facts;have n3:=bst n1 n2;have hlt:=o3.facts.2.2.1;have b2:=o2.byt (ax (mY n _));clear o1 n1 n2 IH;go_wp2_with (at_builtin;refine kG _ rfl (.tmp 11) (.tmp 16) 22 rfl 5 Tryz.underlying22 Tryz.infoB w.heap.size _ _ _ _ rfl o3 g 0 n cap (jt (x/256) n) rfl b2 (by omega) _ _ n3 nle ?_;intro g' cap' v4 o4 n4);go_ret;rw [Nat.add_comm 1 n] at o4;exact ⟨g',cap',gF (Nat.add_comm 1 n),o4,n4⟩
theorem BF (b off len cap k g o n capb:Nat) (zs ys:List Int) (w:World) (hz:Byt w (some (AD b off)) len zs) (hy:Byt w (some (AD g o)) n ys) (hl:len<=1048576) (hk:k+n<=len) (hc:len<=cap) (hm:cap<=9223372036854775807):
 Calls Tryz.prog 140 #[.slice (some (AD b off)) len cap,VI k,.slice (some (AD g o)) n capb] w fun e w'=>
  ∃g' cap',e=.returned (SL g' len cap')∧OwnB 5 w' w.heap.size g' len cap' (zs.take k++ys++zs.drop (k+n))∧Bw w w':=by
 have hzl:=hz.1;have hyl:=hy.1;have o1:=OwnB.new 5 w [] 0 rfl (by decide);have n1:Bw w (w.alloc (Obj.cells #[] 5)):=(brf).alloc nle _;simp only [List.map_nil] at o1;have x1:=(hz.take k (by omega)).keep n1;have fin:∀(a:Option Addr),(k+n<len->a=some ⟨b,off+(k+n),none⟩)->∀v:World,Bw w v->Byt v a (len-(k+n)) (zs.drop (k+n)):=fun a ha v hv=>
  (hz.drop (k+n) (len-(k+n)) hk rfl a ha).keep hv
 have FIN:Hid _:=fin;have hlen:k+n+(len-(k+n))=len:=by omega
 have HL:=hid hlen;clear fin hlen;by_cases hcc:cap=k+n
 ·subst hcc;go_enter Tryz.func140,Tryz.ntmps140;go_wp2_with (first
   | (at_builtin;refine kG _ rfl (.tmp 8) (.tmp 11) 22 rfl 5 Tryz.underlying22 Tryz.infoB w.heap.size _ _ _ _ rfl o1 b off k _ (zs.take k) rfl x1 (by omega) _ _ n1 nle ?_;intro g2 cap2 v2 o2 n2;rw [Nat.zero_add] at o2 |-;have y2:=hy.keep n2;clear o1 n1 x1)
   | (at_builtin;refine kG _ rfl (.tmp 13) (.tmp 14) 22 rfl 5 Tryz.underlying22 Tryz.infoB w.heap.size _ _ _ _ rfl o2 g o n _ ys rfl y2 (by omega) _ _ n2 nle ?_;intro g3 cap3 v3 o3 n3;clear o2 n2 y2 hz hy)
   | (at_builtin;refine kG _ rfl (.tmp 16) (.tmp 22) 22 rfl 5 Tryz.underlying22 Tryz.infoB w.heap.size _ _ _ _ rfl o3 b (off) (len-(k+n)) _ (zs.drop (k+n)) rfl (FIN.out _ (fun h=>by omega) _ n3) (by omega) _ _ n3 nle ?_;intro g4 cap4 v4 o4 n4;clear o3 n3))
  go_ret;rw [HL.out] at o4;exact ⟨g4,cap4,gF (by omega),o4,n4⟩
 ·have hcl:k+n<cap:=by omega
  clear hcc;go_enter Tryz.func140,Tryz.ntmps140;go_wp2_with (first
   | (at_builtin;refine kG _ rfl (.tmp 8) (.tmp 11) 22 rfl 5 Tryz.underlying22 Tryz.infoB w.heap.size _ _ _ _ rfl o1 b off k _ (zs.take k) rfl x1 (by omega) _ _ n1 nle ?_;intro g2 cap2 v2 o2 n2;rw [Nat.zero_add] at o2 |-;have y2:=hy.keep n2;clear o1 n1 x1)
   | (at_builtin;refine kG _ rfl (.tmp 13) (.tmp 14) 22 rfl 5 Tryz.underlying22 Tryz.infoB w.heap.size _ _ _ _ rfl o2 g o n _ ys rfl y2 (by omega) _ _ n2 nle ?_;intro g3 cap3 v3 o3 n3;clear o2 n2 y2 hz hy)
   | (at_builtin;refine kG _ rfl (.tmp 16) (.tmp 22) 22 rfl 5 Tryz.underlying22 Tryz.infoB w.heap.size _ _ _ _ rfl o3 b (off+(k+n)) (len-(k+n)) _ (zs.drop (k+n)) rfl (FIN.out _ (fun _=>rfl) _ n3) (by omega) _ _ n3 nle ?_;intro g4 cap4 v4 o4 n4;clear o3 n3))
  go_ret;rw [HL.out] at o4;exact ⟨g4,cap4,gF (by omega),o4,n4⟩
theorem tx (a:Option Addr) (len cap:Nat) (addr n:Int) (w:World) (hl:len<=1048576) (h0:0<=addr) (h1:addr<=18446744073709551615) (h2:0<=n) (h3:n<=18446744073709551615):
 Calls Tryz.prog 47 #[.slice a len cap,VU addr,VU n] w fun e w'=>e=.returned (.bool (eM len addr n))∧w'=w:=by
 by_cases hh:n<=(len:Int);all_goals
  go_enter Tryz.func47,Tryz.ntmps47;go_wp2;all_goals
   go_ret;exact ⟨by simp [eM];try omega,rfl⟩
theorem vO (a:Option Addr) (len cap:Nat) (addr n:Int) (w:World) (hl:len<=1048576) (h0:0<=addr) (h1:addr<=18446744073709551615) (h3:n<=9223372036854775807):
 Calls Tryz.prog 219 #[.slice a len cap,VU addr,VI n] w fun e w'=>e=.returned (.bool (kc len addr n))∧w'=w:=by
 by_cases hn:n=1∨n=2∨n=4∨n=8
 ·rw [<-qi len addr n hn];rcases hn with rfl | rfl | rfl | rfl;all_goals
   go_enter Tryz.func219,Tryz.ntmps219;go_wp2_with (go_at_call 47;refine (tx _ _ _ _ _ _ hl h0 h1 (by omega) (by omega)).mono ?_;rintro e w' ⟨rfl,rfl⟩);go_ret;exact ⟨rfl,rfl⟩
 ·have n1:(n == 1)=false:=by simp;omega
  have n2:(n == 2)=false:=by simp;omega
  have n4:(n == 4)=false:=by simp;omega
  have n8:(n == 8)=false:=by simp;omega
  have hg:kc len addr n=false:=by simp [kc];omega
  rw [hg];clear hn hg;go_enter Tryz.func219,Tryz.ntmps219;go_wp2;go_ret;exact ⟨rfl,rfl⟩
theorem qj (b off len cap k:Nat) (zs:List Int) (w:World) (h:Cel w b off len zs) (hk:k<len) (hl:len<=1048576):
 Calls Tryz.prog 112 #[.slice (some (AD b off)) len cap,VU k] w fun e w'=>e=.returned (VU (zs[k]?.getD 0))∧w'=w:=by
 have hcell:=h.2.2 k hk;have hb:=h.2.1 k;obtain ⟨z,hz'⟩:∃z,z=zs[k]?.getD 0:=⟨_,rfl⟩;rw [<-hz'] at hcell hb |-;clear hz' h;go_enter Tryz.func112,Tryz.ntmps112;go_wp2;go_ret;exact ⟨rfl,rfl⟩
theorem vQ (b off len cap k:Nat) (zs:List Int) (w:World) (h:Cel w b off len zs) (hk:k+2<=len) (hl:len<=1048576):
 Calls Tryz.prog 222 #[.slice (some (AD b off)) len cap,VU k] w fun e w'=>e=.returned (VU (num ((zs.drop k).take 2)))∧w'=w:=by
 have hb1:=h.2.1 k;have hb2:=h.2.1 (k+1);have HF:Hid (bits .or .u64 (zs[k]?.getD 0) (zs[k+1]?.getD 0*256)=num ((zs.drop k).take 2)):=by
  rw [D8 zs k (by have:=h.1;omega)];exact kH 8 256 _ _ rfl hb1.1 (by omega) hb2.1 (by omega) (by omega)
 go_enter Tryz.func222,Tryz.ntmps222;go_wp2_with fail;refine (qj b off len cap k zs w h (by omega) hl).mono ?_;rintro e w' ⟨rfl,rfl⟩;go_wp2_with fail;rw [show ((k:Int)+1)=((k+1:Nat):Int) by omega];refine (qj b off len cap (k+1) zs _ h (by omega) hl).mono ?_;rintro e w' ⟨rfl,rfl⟩;go_wp2;go_ret;exact ⟨jV HF.out,rfl⟩
theorem vR (b off len cap k:Nat) (zs:List Int) (w:World) (h:Cel w b off len zs) (hk:k+4<=len) (hl:len<=1048576):
 Calls Tryz.prog 221 #[.slice (some (AD b off)) len cap,VU k] w fun e w'=>e=.returned (VU (num ((zs.drop k).take 4)))∧w'=w:=by
 have hb1:=dW zs k 2 h.2.1;have hb2:=dW zs (k+2) 2 h.2.1;simp at hb1 hb2;have HF:Hid (bits .or .u64 (num ((zs.drop k).take 2)) (num ((zs.drop (k+2)).take 2)*65536)=num ((zs.drop k).take 4)):=by
  rw [yj zs k 2 (by have:=h.1;omega)];exact kH 16 65536 _ _ rfl hb1.1 (by omega) hb2.1 (by omega) (by omega)
 go_enter Tryz.func221,Tryz.ntmps221;go_wp2_with fail;refine (vQ b off len cap k zs w h (by omega) hl).mono ?_;rintro e w' ⟨rfl,rfl⟩;go_wp2_with fail;rw [show ((k:Int)+2)=((k+2:Nat):Int) by omega];refine (vQ b off len cap (k+2) zs _ h (by omega) hl).mono ?_;rintro e w' ⟨rfl,rfl⟩;go_wp2;go_ret;exact ⟨jV HF.out,rfl⟩
theorem Bn (b off len cap k:Nat) (zs:List Int) (w:World) (h:Cel w b off len zs) (hk:k+8<=len) (hl:len<=1048576):
 Calls Tryz.prog 220 #[.slice (some (AD b off)) len cap,VU k] w fun e w'=>e=.returned (VU (num ((zs.drop k).take 8)))∧w'=w:=by
 have hb1:=dW zs k 4 h.2.1;have hb2:=dW zs (k+4) 4 h.2.1;simp at hb1 hb2;have HF:Hid (bits .or .u64 (num ((zs.drop k).take 4)) (num ((zs.drop (k+4)).take 4)*4294967296)=num ((zs.drop k).take 8)):=by
  rw [yj zs k 4 (by have:=h.1;omega)];exact kH 32 4294967296 _ _ rfl hb1.1 (by omega) hb2.1 (by omega) (by omega)
 go_enter Tryz.func220,Tryz.ntmps220;go_wp2_with fail;refine (vR b off len cap k zs w h (by omega) hl).mono ?_;rintro e w' ⟨rfl,rfl⟩;go_wp2_with fail;rw [show ((k:Int)+4)=((k+4:Nat):Int) by omega];refine (vR b off len cap (k+4) zs _ h (by omega) hl).mono ?_;rintro e w' ⟨rfl,rfl⟩;go_wp2;go_ret;exact ⟨jV HF.out,rfl⟩
theorem Tryz.sizeB:(Tryz.prog.info? 5).map (fun i=>i.size)=some 1:=by kernel_rfl
theorem zM (a:Option Addr) (len cap:Nat) (zs:List Int) (w:World) (h:Byt w a len zs) (hl:len<=1048576):
 Calls Tryz.prog 50 #[.slice a len cap] w fun e w'=>
  e=.returned (SL w.heap.size len len)∧Blk 5 w' w.heap.size zs∧Bw w w':=by
 obtain ⟨i0,hi,hz0,hz1,hz2⟩:=info_parts Tryz.infoB;have hz:=h.1;go_enter Tryz.func50,Tryz.ntmps50;go_wp2_with (at_make;refine wpList_make_full _ rfl _ _ 96 rfl w.heap.size 5 i0 (.int .u8 0) 1 Tryz.underlying96 hi hz0 hz1 _ _ _ _ len rfl rfl rfl rfl ?b2 ?b3 nle ?_)
 case b2=>rw [hz2];omega
 case b3=>unfold maxLen;omega
 intro w0 hown0 hgrow0;rw [Eu] at hown0;have hb0:=Blk.of_own hown0 rfl;have hn0:Bw w w0:=(brf).grown hgrow0 nle (fun k h=>by cases h);have h0:=h.keep hn0;clear hown0 hgrow0 h;go_wp2_with (refine wpList_copy_splice rfl (.tmp 7) (.tmp 8) 96 96 rfl 5 Tryz.underlying96 Tryz.sizeB _ _ _ _ _ _ rfl rfl w.heap.size 0 ((List.replicate len (0:Int)).map (Value.int .u8)) 5 hb0 (zs.map (Value.int .u8)) (by simp [hz]) (fun hp=>⟨rfl,Ew h0 (by simpa [hz] using hp)⟩) (by simp [hz]) (xE _) w.heap.size w hn0 nle ?_;intro w1 hb1 hn1);go_ret;have hb2:=hb1.out;rw [Am _ _ (by simp [hz])] at hb2;exact ⟨rfl,hb2,hn1⟩
def Cur (T:TypeId) (w:World) (p:Nat) (a:Option Addr) (len cap:Nat) (code:List Int):Prop:=
 ∃(i:Nat) (h:Int),i<=len∧w.heap[p]?=some (.cells #[.slice a len cap,VI i,VI h] T (0,0))∧Byt w a len code∧(0<len->∀x,a=some x->x.block<p)∧len<=1048576
theorem Cur.lt {T:TypeId} {w:World} {p:Nat} {a:Option Addr} {len cap:Nat} {code:List Int} (h:Cur T w p a len cap code):p<w.heap.size:=by
 obtain ⟨_,_,_,hh,_⟩:=h;exact (hpl hh)
theorem oB (x m:Int) (h0:0<=m) (hm:m<9223372036854775808):0<=bits .and .i64 x m∧bits .and .i64 x m<=m:=by
 obtain ⟨m,rfl⟩:=Int.eq_ofNat_of_zero_le h0;have e:bits .and .i64 x m=IntKind.i64.wrap (((BitVec.ofInt 64 x).toNat &&& m:Nat):Int):=by
  unfold bits;show IntKind.i64.wrap ((BitVec.ofInt 64 x &&& BitVec.ofInt 64 (m:Int)).toNat:Int)=_;rw [BitVec.toNat_and,BitVec.ofInt_natCast,BitVec.toNat_ofNat,Nat.mod_eq_of_lt (by omega)]
 have hle:(BitVec.ofInt 64 x).toNat &&& m<=m:=Nat.and_le_right;rw [e];generalize (BitVec.ofInt 64 x).toNat &&& m=t at hle;simp only [IntKind.wrap,IntKind.signed,IntKind.bits];simp;omega
theorem Cur.step {T:TypeId} {w v:World} {p:Nat} {a:Option Addr} {len cap:Nat} {code:List Int} {i i':Nat} {h h':Int}
 (hh:w.heap[p]?=some (.cells #[.slice a len cap,VI i,VI h] T (0,0))) (hb:Byt w a len code) (hlt:0<len->∀x,a=some x->x.block<p) (hl:len<=1048576) (hi:i'<=len)
 (hv:v.heap[p]?=some (.cells #[.slice a len cap,VI i',VI h'] T (0,0))) (hg:w.grownBy v (some p)):Cur T v p a len cap code:=by
 refine ⟨i',h',hi,hv,?_,hlt,hl⟩;obtain ⟨h1,h2,h3⟩:=hb;refine ⟨h1,h2,?_⟩;by_cases h0:len=0
 ·exact .inl h0
 rcases h3 with h3 | ⟨b,off,rfl,hbw,hc⟩
 ·exact .inl h3
 ·have hbp:b<p:=hlt (by omega) (AD b off) rfl;exact .inr ⟨b,off,rfl,ltl hbw hg.size,fun j hj=>(World.cell?_of_block (hg.block b hbw (by simp;omega))).trans (hc j hj)⟩
theorem ct {w v:World} {r:Option Nat} (h:w.grownBy v r) (n:Nat):w.grownBy (v.drewN n) r:=⟨h.os,h.tape,h.output,h.size,h.block⟩
theorem FR {v:World} {p:Nat} {T:TypeId} {a b c u:Value} (h:v.heap[p]?=some (.cells #[a,b,c] T (0,0))):(v.setCell (AD p 1) u).heap[p]?=some (.cells #[a,u,c] T (0,0)):=by
 simp [World.setCell,Array.getElem?_modify,h]
theorem Fs {v:World} {p:Nat} {T:TypeId} {a b c u:Value} (h:v.heap[p]?=some (.cells #[a,b,c] T (0,0))):(v.setCell (AD p 2) u).heap[p]?=some (.cells #[a,b,u] T (0,0)):=by
 simp [World.setCell,Array.getElem?_modify,h]
theorem tG {w v u:World} {r:Option Nat} (h:w.grownBy v r) (k:v.grownBy u r):w.grownBy u r:=
 ⟨k.os.trans h.os,k.tape.trans h.tape,k.output.trans h.output,Nat.le_trans h.size k.size,fun i hi hn=>(k.block i (ltl hi h.size) hn).trans (h.block i hi hn)⟩
theorem cf (n:Int):0<=IntKind.u64.wrap n∧IntKind.u64.wrap n<=18446744073709551615:=by
 simp only [IntKind.wrap,IntKind.signed,IntKind.bits];simp;omega
def Drew (T:TypeId) (w:World) (p:Nat) (a:Option Addr) (len cap:Nat) (code:List Int) (w':World):Prop:=Cur T w' p a len cap code∧w.grownBy w' (some p)
theorem Drew.trans {T:TypeId} {w v u:World} {p:Nat} {a:Option Addr} {len cap:Nat} {code:List Int} (h:Drew T w p a len cap code v) (k:Drew T v p a len cap code u):Drew T w p a len cap code u:=⟨k.1,tG h.2 k.2⟩
theorem Cur.below {T:TypeId} {B:Nat} {w v:World} {p:Nat} {a:Option Addr} {len cap:Nat} {code:List Int} (h:Cur T w p a len cap code) (hb:Below B w v) (hp:p<B):Cur T v p a len cap code:=by
 obtain ⟨i,hh,hi,hv,⟨h1,h2,h3⟩,hlt,hl⟩:=h;refine ⟨i,hh,hi,by rw [hb.block p hp];exact hv,⟨h1,h2,?_⟩,hlt,hl⟩;by_cases h0:len=0
 ·exact .inl h0
 rcases h3 with h3 | ⟨b,off,rfl,hbw,hc⟩
 ·exact .inl h3
 ·have hbp:b<p:=hlt (by omega) (AD b off) rfl;exact .inr ⟨b,off,rfl,ltl hbw hb.size,fun j hj=>(hb.cell (p:=⟨b,off+j,none⟩) (Nat.lt_trans hbp hp)).trans (hc j hj)⟩
theorem Drew.below {T:TypeId} {w v u:World} {p:Nat} {a:Option Addr} {len cap:Nat} {code:List Int} (h:Drew T w p a len cap code v) (hb:Below w.heap.size v u) (hp:p<w.heap.size):Drew T w p a len cap code u:=by
 refine ⟨h.1.below hb hp,⟨hb.os.trans h.2.os,hb.tape.trans h.2.tape,hb.output.trans h.2.output,Nat.le_trans h.2.size hb.size,fun i hi hn=>(hb.block i hi).trans (h.2.block i hi hn)⟩⟩
theorem OwnB.gb {e:TypeId} {w w':World} {base g n cap r:Nat} {zs:List Int} (h:OwnB e w base g n cap zs) (hg:w.grownBy w' (some r)) (hne:g≠r):OwnB e w' base g n cap zs:=by
 obtain ⟨h1,h2⟩:=h;refine ⟨h1,?_⟩;rcases h2 with ⟨h2,_⟩ | ⟨g',cap',cur,h2,hb',hh,r'⟩
 ·simp at h2
 ·have hh':=h2;simp at hh';obtain ⟨rfl,rfl⟩:=hh';exact .inr ⟨_,_,cur,h2,hb',by rw [hg.block _ (hpl hh) (by simpa using hne)];exact hh,r'⟩
theorem fI (w:World) (e:TypeId) (z:Int) (hz:0<=z∧z<=255):Byt (w.alloc (.cells #[.int .u8 z] e)) (some (AD w.heap.size 0)) 1 [z]:=
 (OwnB.new e w [z] 1 rfl (by decide)).byt (fun i=>by cases i <;> simp [hz])
section
variable {P:Program} {ops:Array Oper} {Q:Exit->Act->World->Prop} {rest:List Oper} {a:Act}
theorem iE {d:Tmp} {T ty:TypeId} {x:Operand} {pos:String} {af:Array Edge} {w:World} {b o:Nat} {V:Value} (hx:a.eval x=PT b o) (hl:(Instr.loadAt T (PT b o)).run P w=.ok V w)
 (h:wpList P ops Q rest (a.put (some d) V) w):wpList P ops Q ({ dst:=some d,op:=.load T x,type:=ty,pos:=pos,after:=af,guard:=none }::rest) a w:=
 wpList_plain rfl fun K hK=>by
  unfold Oper.wp execOp;simp only [hx,Sem.run_bind,hl,Result.andThen_ok,Sem.run_pure];exact hK _ _ h
theorem it {T ty:TypeId} {x y:Operand} {pos:String} {af:Array Edge} {w w':World} {b o:Nat} {V:Value} (hx:a.eval x=PT b o) (hy:a.eval y=V) (hl:(Instr.storeAt T (PT b o) V).run P w=.ok () w')
 (h:wpList P ops Q rest (a.put none undef) w'):wpList P ops Q ({ dst:=none,op:=.store T x y,type:=ty,pos:=pos,after:=af,guard:=none }::rest) a w:=
 wpList_plain rfl fun K hK=>by
  unfold Oper.wp execOp;simp only [hx,hy,Sem.run_bind,hl,Result.andThen_ok,Sem.run_pure];exact hK _ _ h
end
theorem wF {w:World} {b:Nat} {C:Array Value} {t:TypeId} {fr:Nat × Nat} (hb:w.heap[b]?=some (.cells C t fr)) {o n:Nat} {L:List Value} (hL:(C.toList.drop o).take n=L):w.rangeAt b o L:=by
 intro j v hv;rw [<-hL,List.getElem?_take] at hv;split at hv
 ·rw [List.getElem?_drop] at hv;simp only [World.cell?,hb];simpa using hv
 ·cases hv
theorem jB {P:Program} {w:World} {b:Nat} {C:Array Value} {t:TypeId} {fr:Nat × Nat} (hb:w.heap[b]?=some (.cells C t fr)) {T:TypeId} {d:TypeDesc} (hu:P.underlying T=some d) (hd:d.isRow=true) {o n:Nat} (L:List Value) (hi:(P.info? T).map (·.size)=some n) (hL:(C.toList.drop o).take n=L) (hn:L.length=n):
 (Instr.loadAt T (PT b o)).run P w=.ok (.agg L.toArray) w:=
 run_loadAt_mid w b o T L d (wF hb hL) hu hd (by rw [hn];exact hi)
theorem zr {P:Program} {w:World} {b:Nat} {C:Array Value} {t:TypeId} {fr:Nat × Nat} (hb:w.heap[b]?=some (.cells C t fr)) {T:TypeId} {d:TypeDesc} (hu:P.underlying T=some d) (hd:d.isRow=true) {o n:Nat} (L:List Value) (hi:(P.info? T).map (·.size)=some n) (hL:(C.toList.drop o).take n=L) (hn:L.length=n):
 (loadVar T (AD b o)).run P w=.ok (.agg L.toArray) w:=
 run_loadVar_mid w b o T L d (wF hb hL) hu hd (by rw [hn];exact hi)
def mn (C:Array Value) (o:Nat) (L:List Value):Array Value:=(C.toList.take o++L++C.toList.drop (o+L.length)).toArray
theorem bD (b:Nat):∀(L:List Value) (o:Nat) (w:World) (C:Array Value) (t:TypeId) (fr:Nat × Nat),w.heap[b]?=some (.cells C t fr)->o+L.length<=C.size->(w.setCells b o L).heap[b]?=some (.cells (mn C o L) t fr)
 | [],o,w,C,t,fr,h,hl=>by simp [World.setCells,mn,h]
 | v::L,o,w,C,t,fr,h,hl=>by
  simp only [List.length_cons] at hl;have h1:(w.setCell (AD b o) v).heap[b]?=some (.cells (C.setIfInBounds o v) t fr):=by
   simp [World.setCell,Array.getElem?_modify,h]
  have h2:=bD b L (o+1) _ _ t fr h1 (by simp;omega);have e:mn (C.setIfInBounds o v) (o+1) L=mn C o (v::L):=by
   unfold mn;congr 1;simp only [Array.toList_setIfInBounds,List.length_cons];have hlen:o<C.toList.length:=by simpa using (by omega:o<C.size)
   rw [List.take_add_one,List.take_set_of_le nle,List.getElem?_set_self hlen,List.drop_set_of_lt (by omega),show o+1+L.length=o+(L.length+1) by omega];simp
  rw [<-e];exact h2
theorem iq (b:Nat):∀(L:List Value) (o:Nat) (w v:World),w.grownBy v (some b)->w.grownBy (v.setCells b o L) (some b)
 | [],o,w,v,h=>h
 | x::L,o,w,v,h=>iq b L (o+1) w _ (hZ h o x)
theorem kn {P:Program} {w:World} {b:Nat} {C:Array Value} {t:TypeId} (hb:w.heap[b]?=some (.cells C t (0,0))) {T:TypeId} {o:Nat} {V:Array Value} (hi:(P.info? T).map (·.size)=some V.size) (hs:o+V.size<=C.size) (h1:V.all (·.oneCell')=true):
 (Instr.storeAt T (PT b o) (.agg V)).run P w=.ok () (w.setCells b o V.toList):=by
 refine run_storeAt_mid w b o T V (fun j hj=>?_) hi h1;refine ⟨?_,?_⟩
 ·have:o+j<C.size:=by omega
  simp [World.cell?,hb,this]
 ·simp [World.frozen?,hb]
theorem iI {w:World} {b:Nat} {C:Array Value} {t:TypeId} {fr:Nat × Nat} (hb:w.heap[b]?=some (.cells C t fr)) (i:Nat) (v:Value):(w.setCell (AD b i) v).heap[b]?=some (.cells (C.setIfInBounds i v) t fr):=by
 simp [World.setCell,Array.getElem?_modify,hb]
theorem gX {w:World} {b:Nat} {C:Array Value} {t:TypeId} {fr:Nat × Nat} (hb:w.heap[b]?=some (.cells C t fr)) (i:Nat) {v:Value} (hv:C[i]?=some v):w.cell? (AD b i)=some v:=by
 simp [World.cell?,hb,hv]
theorem ie {w:World} {b:Nat} {C:Array Value} {t:TypeId} (hb:w.heap[b]?=some (.cells C t (0,0))) (i:Nat):w.frozen? (AD b i)=false:=by
 simp [World.frozen?,hb]
theorem kX {w w':World} {b r:Nat} {o:Obj} (h:w.heap[b]?=some o) (hg:w.grownBy w' (some r)) (hne:b≠r):w'.heap[b]?=some o:=aL h hg hne
theorem dz {w:World} {b r:Nat} {o:Obj} (h:w.heap[b]?=some o) (i:Nat) (v:Value) (hne:b≠r):(w.setCell (AD r i) v).heap[b]?=some o:=by
 rw [<-h];simp [World.setCell,Array.getElem?_modify,Ne.symm hne]
theorem me {w:World} {b r:Nat} {o:Obj} (h:w.heap[b]?=some o) (i:Nat) (L:List Value) (hne:b≠r):(w.setCells r i L).heap[b]?=some o:=
 aL h (iq r L i w w (aM w (some r))) hne
theorem eD {B:Nat} {a w:World} {g:Nat} (h:Below B a w) (hg:B<=g) (i:Nat) (v:Value):Below B a (w.setCell (AD g i) v):=h.setCell hg _
theorem dU {B:Nat} {a:World} {g:Nat} (hg:B<=g):∀(L:List Value) (o:Nat) (w:World),Below B a w->Below B a (w.setCells g o L)
 | [],o,w,h=>h
 | x::L,o,w,h=>dU hg L (o+1) _ (h.setCell hg _)
theorem jw (b:Nat):∀(L:List Value) (o:Nat) (w:World),(w.setCells b o L).heap.size=w.heap.size
 | [],o,w=>rfl
 | x::L,o,w=>by
  rw [World.setCells,jw b L (o+1)];simp
theorem fF (C V:Array Value) (h:V.size=C.size):mn C 0 V.toList=V:=by
 unfold mn;rw [List.take_zero,List.drop_of_length_le (by simp [h])];simp
theorem iA {P:Program} {w:World} {b:Nat} {C:Array Value} {t:TypeId} {fr:Nat × Nat} (hb:w.heap[b]?=some (.cells C t fr)) {T:TypeId} {d:TypeDesc} (hu:P.underlying T=some d) (hd:d.isRow=true) (hi:(P.info? T).map (·.size)=some C.size):
 (Instr.loadAt T (PT b 0)).run P w=.ok (.agg C) w:=by
 have:=jB (P:=P) hb hu hd (o:=0) C.toList hi (by rw [List.drop_zero,List.take_of_length_le (by simp)]) (by simp);simpa using this
theorem iH {P:Program} {w:World} {b:Nat} {C:Array Value} {t:TypeId} {fr:Nat × Nat} (hb:w.heap[b]?=some (.cells C t fr)) {T:TypeId} {d:TypeDesc} (hu:P.underlying T=some d) (hd:d.isRow=true) (hi:(P.info? T).map (·.size)=some C.size):
 (loadVar T (AD b 0)).run P w=.ok (.agg C) w:=by
 have:=zr (P:=P) hb hu hd (o:=0) C.toList hi (by rw [List.drop_zero,List.take_of_length_le (by simp)]) (by simp);simpa using this
theorem iC {P:Program} {w:World} {b:Nat} {C V:Array Value} {t:TypeId} (hb:w.heap[b]?=some (.cells C t (0,0))) {T:TypeId} (hi:(P.info? T).map (·.size)=some V.size) (hs:V.size=C.size) (h1:V.all (·.oneCell')=true):
 (Instr.storeAt T (PT b 0) (.agg V)).run P w=.ok () (w.setCells b 0 V.toList):=
 kn hb hi (by omega) h1
theorem fG {w:World} {b:Nat} {C V:Array Value} {t:TypeId} {fr:Nat × Nat} (hb:w.heap[b]?=some (.cells C t fr)) (hs:V.size=C.size):(w.setCells b 0 V.toList).heap[b]?=some (.cells V t fr):=by
 rw [bD b V.toList 0 w C t fr hb (by simp;omega),fF C V hs]
theorem qE {C:Array Value} (h:C.all (·.oneCell')=true) (i:Nat) {v:Value} (hv:v.oneCell'=true):(C.setIfInBounds i v).all (·.oneCell')=true:=by
 rw [Array.all_eq_true_iff_forall_mem] at h |-;intro x hx;rcases Array.mem_or_eq_of_mem_setIfInBounds hx with hx | rfl
 ·exact h x hx
 ·exact hv
theorem jE {P:Program} {fn:Func} {R:Ending->World->Prop} {a:Act} {w:World} {s:Tmp} {T:TypeId} {b:Nat} {V:Value} (hr:fn.results=#[ResultVar.cell s T]) (hs:a.tmps[s]?=some (PT b 0)) (hl:(loadVar T (AD b 0)).run P w=.ok V w) (hd:a.defers=[]) (hR:R (.returned V) w):bodyPost P fn R .ret a w:=by
 refine bodyPost_ret (v:=V) ?_ hd hR;simp [results,hr,hs,asAddr,hl]
theorem je {e T:TypeId} {size base n pb:Nat} {w:World} {s:Value} {cs:List Value} {cur:Array Value} {q:Nat × Nat} (h:w.ownsRow base e size s n cs) (hp:w.heap[pb]?=some (.cells cur T q)) (hT:T≠e):s.ownBlock≠some pb:=by
 rcases h.2 with ⟨h1,_⟩ | ⟨g,cap,cur',h1,_,h3,_⟩
 ·rw [h1];simp [Value.ownBlock]
 ·rw [h1];simp only [Value.ownBlock];intro he;have:g=pb:=Option.some.inj he;subst this;rw [h3] at hp;cases hp;exact hT rfl
theorem ak {e T:TypeId} {size base n pb:Nat} {w w':World} {s:Value} {cs:List Value} {cur:Array Value} {q:Nat × Nat} (h:w.ownsRow base e size s n cs) (hp:w.heap[pb]?=some (.cells cur T q)) (hT:T≠e) (hg:w.grownBy w' (some pb)):w'.ownsRow base e size s n cs:=
 h.kept hg (.inr (je h hp hT))
theorem iw {P:Program} {a:Act} {d:Option Tmp} {T ty:TypeId} {x:Operand} {pos:String} {af:Array Edge} {g:Option (Nat × Bool)} {w:World} {b o:Nat} {V:Value} (hx:a.eval x=PT b o) (hl:(Instr.loadAt T (PT b o)).run P w=.ok V w):
 (execOp a.eval { dst:=d,op:=.load T x,type:=ty,pos:=pos,after:=af,guard:=g }).run P w=.ok (.value V) w:=by
 unfold execOp;simp only [hx,Sem.run_bind,hl,Result.andThen_ok,Sem.run_pure]
theorem uR {P:Program} {ops:Array Oper} {Q:Exit->Act->World->Prop} {S:World->Prop} {fuel:Nat} {listed:Array Bool} {a:Act} {w w':World} (i:Nat) {T ty:TypeId} {x y:Operand} {pos:String} {af:Array Edge} (hi:ops[i]?=some { dst:=none,op:=.store T x y,type:=ty,pos:=pos,after:=af,guard:=none }) (hr:Region.ready .any ops listed=[i])
 {b o:Nat} {V:Value} (hx:a.eval x=PT b o) (hy:a.eval y=V) (hl:(Instr.storeAt T (PT b o) V).run P w=.ok () w') (hS:S w') (h:wpAnyH P .any ops Q S fuel (listed.setIfInBounds i true) a w'):wpAnyH P .any ops Q S (fuel+1) listed a w:=by
 refine wpAnyH_all hr (by simp) (fun j hj=>?_);have:j=i:=by simpa using hj
 subst this;unfold wpOp;simp only [hi];rw [if_pos (by simp [Region.wanted])];refine .inl ?_;unfold Oper.wp execOp;simp only [hx,hy,Sem.run_bind,hl,Result.andThen_ok,Sem.run_pure];exact ⟨hS,h⟩
end Go.Proofs.YtjdmhibnhpdjaaaGreat
