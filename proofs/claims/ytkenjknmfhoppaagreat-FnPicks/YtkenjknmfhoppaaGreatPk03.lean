import Derived.Deep.RegionLaw
import Derived.Test.YtkenjknmfhoppaaGreatPk02
import Derived.StillTailTactics
import Derived.Deep.MidRow
import Derived.OrdersHeld
namespace Go.Proofs.YtkenjknmfhoppaaGreat
open Go.RowKit
set_option linter.unusedVariables false
set_option maxHeartbeats 6400000
set_option maxRecDepth 20000
def yC (r:aQ):List Value:=[VI r.1,VU r.2.1,VU r.2.2]
def cG:List aQ->List Value
 | []=>[]
 | r::rs=>yC r++cG rs
theorem uQ:∀rs:List aQ,(cG rs).length=rs.length*3
 | []=>rfl
 | r::rs=>by simp [cG,yC,uQ rs];omega
theorem nv:∀rs:List aQ,∀u∈cG rs,u.oneCell'=true
 | [],u,h=>by simp [cG] at h
 | r::rs,u,h=>by
  simp only [cG,List.mem_append] at h;rcases h with h | h
  ·simp [yC] at h;rcases h with rfl | rfl | rfl <;> rfl
  ·exact nv rs u h
theorem aP {w:World} {g:Nat} {T:TypeId} {a b c d:Value} (h:w.heap[g]?=some (.cells #[a,b,c,d] T (0,0))):
 (w.cell? (AD g 0)=some a∧w.cell? (AD g 1)=some b∧w.cell? (AD g 2)=some c∧w.cell? (AD g 3)=some d)∧
 (w.frozen? (AD g 0)=false∧w.frozen? (AD g 1)=false∧w.frozen? (AD g 2)=false∧w.frozen? (AD g 3)=false):=by
 simp [World.cell?,World.frozen?,h]
theorem JT (va level:Int) (w:World) (h0:0<=va) (h1:va<=18446744073709551615) (hl:0<=level) (hl':level<=2):
 Calls Tryz.prog 132 #[VU va,VI level] w fun e w'=>e=.returned (VU (dq va level))∧∃n,w'=w.drewN n:=by
 rcases (show level=0∨level=1∨level=2 by omega) with rfl | rfl | rfl
 ·go_enter Tryz.func132,Tryz.ntmps132;go_wp2_with fail;refine (bV va 6 8 64 8 w h0 h1 (by omega) (by omega) (by omega) (by omega) rfl rfl).mono ?_;rintro e w' ⟨rfl,nq,rfl⟩;go_wp2;go_ret;exact ⟨rfl,nq,rfl⟩
 ·go_enter Tryz.func132,Tryz.ntmps132;go_wp2_with fail;refine (bV va 9 11 512 8 w h0 h1 (by omega) (by omega) (by omega) (by omega) rfl rfl).mono ?_;rintro e w' ⟨rfl,nq,rfl⟩;go_wp2;go_ret;exact ⟨rfl,nq,rfl⟩
 ·go_enter Tryz.func132,Tryz.ntmps132;go_wp2_with fail;refine (bV va 12 14 4096 8 w h0 h1 (by omega) (by omega) (by omega) (by omega) rfl rfl).mono ?_;rintro e w' ⟨rfl,nq,rfl⟩;go_wp2;go_ret;exact ⟨rfl,nq,rfl⟩
theorem Tryz.infoRec:(Tryz.prog.info? 142).map (fun i=>(i.zero,i.size,i.bytes))=some (some (.agg #[VI 0,VU 0,VU 0]),3,24):=by kernel_rfl
theorem uR (l a v:Int) (w:World):
 Calls Tryz.prog 133 #[VI l,VU a,VU v] w fun e w'=>
  e=.returned (SL w.heap.size 1 1)∧w'=w.alloc (.cells #[VI l,VU a,VU v] 142):=by
 go_enter Tryz.func133,Tryz.ntmps133;go_wp2;go_ret;exact ⟨rfl,rfl⟩
theorem rV (va level:Int):0<=dq va level∧dq va level<=7:=by
 unfold dq;split
 ·omega
 ·split <;> omega
theorem oY (zs:List Int) (a n:Int) (hn:n<=8) (h:∀i:Nat,0<=zs[i]?.getD 0∧zs[i]?.getD 0<=255):0<=rdV zs a n∧rdV zs a n<=18446744073709551615:=by
 unfold rdV;split
 ·have:=gK zs a.toNat n.toNat h;have hp:(256:Int)^n.toNat<=18446744073709551616:=by
   rcases (show n.toNat=0∨n.toNat=1∨n.toNat=2∨n.toNat=3∨n.toNat=4∨n.toNat=5∨n.toNat=6∨n.toNat=7∨n.toNat=8 by omega) with h | h | h | h | h | h | h | h | h <;> rw [h] <;> decide
  omega
 ·omega
theorem JG {v:World} {p:Nat} {T:TypeId} {a b c d u:Value} (h:v.heap[p]?=some (.cells #[a,b,c,d] T (0,0))):(v.setCell (AD p 3) u).heap[p]?=some (.cells #[a,b,c,u] T (0,0)):=by
 simp [World.setCell,Array.getElem?_modify,h]
theorem gb4 (v:World) (g:Nat) (x y z u:Value):v.grownBy ((((v.setCell (AD g 0) x).setCell (AD g 1) y).setCell (AD g 2) z).setCell (AD g 3) u) (some g):=
 au (au (au (au (ak v (some g)) 0 x) 1 y) 2 z) 3 u
theorem Db {B:Nat} {a w:World} {g:Nat} (h:Below B a w) (hg:B<=g) (x y z u:Value):Below B a ((((w.setCell (AD g 0) x).setCell (AD g 1) y).setCell (AD g 2) z).setCell (AD g 3) u):=
 (((h.setCell (p:=(AD g 0)) hg x).setCell (p:=(AD g 1)) hg y).setCell (p:=(AD g 2)) hg z).setCell (p:=(AD g 3)) hg u
theorem GK (V:World) (g:Nat) (hg:V.heap.size=g) (e:TypeId) (n size:Nat) (cs:List Value) (hn:cs.length=n*size) (hm:n<=maxLen):RowC (V.alloc (.cells cs.toArray e)).drew (some (AD g 0)) n size cs:=by
 subst hg;exact (OwnC.new e size V cs n hn hm).row
def oZ (base:Nat) (w':World) (e:Ending) (r:Int × Int × Int × List aQ):Prop:=
 ∃a cap,e=.returned (.agg #[VI r.1,VI r.2.1,VU r.2.2.1,.slice a r.2.2.2.length cap])∧RowC w' a r.2.2.2.length 3 (cG r.2.2.2)∧
  (a=none->r.2.2.2.length=0∧cap=0)∧(∀q,a=some q->q.spot=none∧base<=q.block)∧r.2.2.2.length<=cap
theorem wC (x:Int):0<=dK x∧dK x<17592186044416:=⟨Int.emod_nonneg _ (by omega),Int.emod_lt_of_pos _ (by omega)⟩
theorem ny (p l:Int):aW p l=0∨aW p l=1∨aW p l=2:=by
 unfold aW;split
 ·exact .inl rfl
 ·split
  ·split
   ·exact .inl rfl
   ·exact .inr (.inl rfl)
  ·split
   ·exact .inl rfl
   ·exact .inr (.inr rfl)
theorem jF (p:Int):aW p 0≠1:=by
 unfold aW;split
 ·simp
 ·split
  ·simp
  ·split <;> simp
theorem ae {B:Nat} {w w':World} {g:Nat} {o:Obj} (h:w.heap[g]?=some o) (hb:Below B w w') (hg:g<B):w'.heap[g]?=some o:=by rw [hb.block g hg,h]
theorem sY (a:Option Addr) (len cap:Nat) (zs:List Int) (va lv n ix rv:Int) (w:World) (hl:len<=1048576) (hc:len<=cap) (hm:cap<=9223372036854775807) (hv0:0<=va) (hv1:va<=18446744073709551615)
 (h0:0<=lv) (h2:lv<=2) (hn0:0<=n) (hn1:n<17592186044416) (hB:Byt w a len zs) (hix:Hid (dq va lv=ix)) (hib:0<=ix∧ix<=7) (hrv:Hid (rdV zs (64*n+8*ix) 8=rv)) (hrb:0<=rv∧rv<=18446744073709551615)
 (hg:Hid (dZ len (64*n+8*ix) 8=false)):
 Calls Tryz.prog 95 #[.slice a len cap,VU n,VI lv,VU va] w fun e w'=>oZ w.heap.size w' e (3,lv,0,[])∧Bw w w':=by
 have hz:=hB.1;obtain ⟨v1,Ev1,n1,H8,l1⟩:=al1 w #[VI 0,VI 0,VU 0,SN] 138;go_enter Tryz.func95,Tryz.ntmps95;go_wp2_with fail;rw [Ev1.out];clear Ev1;refine (JT va lv v1 hv0 hv1 h0 h2).mono ?_;rintro e w' ⟨rfl,nq,rfl⟩;rw [hix.out];have n2:=below_drewN n1 nq;have H9:Hid ((v1.drewN nq).heap[w.heap.size]?=some (.cells #[VI 0,VI 0,VU 0,SN] 138 (0,0))):=H8;have l2:w.heap.size<(v1.drewN nq).heap.size:=l1;generalize v1.drewN nq=v2 at n2 H9 l2 |-;clear H8 l1 n1;go_wp2_with fail;refine (ia a len cap zs (64*n+8*ix) 8 v2 (hB.keep n2) hl hc hm (by omega) (by omega) (by omega)).mono ?_;rintro e v3 ⟨rfl,n3⟩;rw [hrv.out,hg.out];have n13:=bst n2 n3;have H10:Hid (v3.heap[w.heap.size]?=some (.cells #[VI 0,VI 0,VU 0,SN] 138 (0,0))):=ae H9.out n3 l2;have l3:w.heap.size<v3.heap.size:=ltl l2 n3.size;clear H9 n2 n3 l2;obtain ⟨⟨d0,d1,d2,d3⟩,e0,e1,e2,e3⟩:=aP H10.out;go_wp2_with fail;refine bodyPost_ret (v:=.agg #[VI 3,VI lv,VU 0,SN]) (by simp [results,Tryz.results95,go_sem,d0,d1,d2,d3,l3]) rfl ⟨⟨none,0,rfl,RowC.nil _ _ _,fun _=>⟨rfl,rfl⟩,(by intro q hq;cases hq),Nat.zero_le _⟩,?_⟩;exact (Db n13 nle _ _ _ _).alloc (by simpa [World.setCell] using n13.size) _
theorem sZ (a:Option Addr) (len cap:Nat) (zs:List Int) (va lv n ix rv:Int) (w:World) (hl:len<=1048576) (hc:len<=cap) (hm:cap<=9223372036854775807) (hv0:0<=va) (hv1:va<=18446744073709551615)
 (h0:0<=lv) (h2:lv<=2) (hn0:0<=n) (hn1:n<17592186044416) (hB:Byt w a len zs) (hix:Hid (dq va lv=ix)) (hib:0<=ix∧ix<=7) (hrv:Hid (rdV zs (64*n+8*ix) 8=rv)) (hrb:0<=rv∧rv<=18446744073709551615)
 (hg:Hid (dZ len (64*n+8*ix) 8=true)) (hk:Hid (aW rv lv=0)):
 Calls Tryz.prog 95 #[.slice a len cap,VU n,VI lv,VU va] w fun e w'=>oZ w.heap.size w' e (2,lv,0,[])∧Bw w w':=by
 have hz:=hB.1;obtain ⟨v1,Ev1,n1,H8,l1⟩:=al1 w #[VI 0,VI 0,VU 0,SN] 138;go_enter Tryz.func95,Tryz.ntmps95;go_wp2_with fail;rw [Ev1.out];clear Ev1;refine (JT va lv v1 hv0 hv1 h0 h2).mono ?_;rintro e w' ⟨rfl,nq,rfl⟩;rw [hix.out];have n2:=below_drewN n1 nq;have H9:Hid ((v1.drewN nq).heap[w.heap.size]?=some (.cells #[VI 0,VI 0,VU 0,SN] 138 (0,0))):=H8;have l2:w.heap.size<(v1.drewN nq).heap.size:=l1;generalize v1.drewN nq=v2 at n2 H9 l2 |-;clear H8 l1 n1;go_wp2_with fail;refine (ia a len cap zs (64*n+8*ix) 8 v2 (hB.keep n2) hl hc hm (by omega) (by omega) (by omega)).mono ?_;rintro e v3 ⟨rfl,n3⟩;rw [hrv.out,hg.out];have n13:=bst n2 n3;have H10:Hid (v3.heap[w.heap.size]?=some (.cells #[VI 0,VI 0,VU 0,SN] 138 (0,0))):=ae H9.out n3 l2;have l3:w.heap.size<v3.heap.size:=ltl l2 n3.size;clear H9 n2 n3 l2;go_wp2_with fail;have a4:=ke v3 #[Value.bool true,VU rv] 186;generalize v3.alloc (Obj.cells #[Value.bool true,VU rv] 186)=v4 at a4 |-;obtain ⟨l4,c4,n4⟩:=a4;have c41:v4.cell? (AD v3.heap.size 1)=some (VU rv):=c4 1;have n14:=bst n13 n4;have H11:Hid (v4.heap[w.heap.size]?=some (.cells #[VI 0,VI 0,VU 0,SN] 138 (0,0))):=ae H10.out n4 l3;clear c4 n13 n4 H10;refine (iz rv lv v4 hrb.1 hrb.2 (by omega) (by omega)).mono ?_;rintro e w' ⟨rfl,nk,rfl⟩;rw [hk.out];have n15:Bw w (v4.drewN nk):=below_drewN n14 nk;have c51:(v4.drewN nk).cell? (AD v3.heap.size 1)=some (VU rv):=c41;have H12:Hid ((v4.drewN nk).heap[w.heap.size]?=some (.cells #[VI 0,VI 0,VU 0,SN] 138 (0,0))):=H11;have l5:v3.heap.size<(v4.drewN nk).heap.size:=l4;generalize v4.drewN nk=v5 at n15 c51 H12 l5 |-;clear n14 c41 H11 l4;obtain ⟨⟨d0,d1,d2,d3⟩,e0,e1,e2,e3⟩:=aP H12.out;go_wp2_with fail;refine bodyPost_ret (v:=.agg #[VI 2,VI lv,VU 0,SN]) (by simp [results,Tryz.results95,go_sem,d0,d1,d2,d3]) rfl ⟨⟨none,0,rfl,RowC.nil _ _ _,fun _=>⟨rfl,rfl⟩,(by intro q hq;cases hq),Nat.zero_le _⟩,?_⟩;exact Db n15 nle _ _ _ _
theorem rx (a:Option Addr) (len cap:Nat) (zs:List Int) (va lv n ix rv:Int) (w:World) (hl:len<=1048576) (hc:len<=cap) (hm:cap<=9223372036854775807) (hv0:0<=va) (hv1:va<=18446744073709551615)
 (h0:0<=lv) (h2:lv<=2) (hn0:0<=n) (hn1:n<17592186044416) (hB:Byt w a len zs) (hix:Hid (dq va lv=ix)) (hib:0<=ix∧ix<=7) (hrv:Hid (rdV zs (64*n+8*ix) 8=rv)) (hrb:0<=rv∧rv<=18446744073709551615)
 (hg:Hid (dZ len (64*n+8*ix) 8=true)) (hk:Hid (aW rv lv=2)):
 Calls Tryz.prog 95 #[.slice a len cap,VU n,VI lv,VU va] w fun e w'=>oZ w.heap.size w' e (1,lv,rv,[(lv,64*n+8*ix,rv)])∧Bw w w':=by
 have hz:=hB.1;obtain ⟨v1,Ev1,n1,H8,l1⟩:=al1 w #[VI 0,VI 0,VU 0,SN] 138;go_enter Tryz.func95,Tryz.ntmps95;go_wp2_with fail;rw [Ev1.out];clear Ev1;refine (JT va lv v1 hv0 hv1 h0 h2).mono ?_;rintro e w' ⟨rfl,nq,rfl⟩;rw [hix.out];have n2:=below_drewN n1 nq;have H9:Hid ((v1.drewN nq).heap[w.heap.size]?=some (.cells #[VI 0,VI 0,VU 0,SN] 138 (0,0))):=H8;have l2:w.heap.size<(v1.drewN nq).heap.size:=l1;generalize v1.drewN nq=v2 at n2 H9 l2 |-;clear H8 l1 n1;go_wp2_with fail;refine (ia a len cap zs (64*n+8*ix) 8 v2 (hB.keep n2) hl hc hm (by omega) (by omega) (by omega)).mono ?_;rintro e v3 ⟨rfl,n3⟩;rw [hrv.out,hg.out];have n13:=bst n2 n3;have H10:Hid (v3.heap[w.heap.size]?=some (.cells #[VI 0,VI 0,VU 0,SN] 138 (0,0))):=ae H9.out n3 l2;have l3:w.heap.size<v3.heap.size:=ltl l2 n3.size;clear H9 n2 n3 l2;go_wp2_with fail;have a4:=ke v3 #[Value.bool true,VU rv] 186;generalize v3.alloc (Obj.cells #[Value.bool true,VU rv] 186)=v4 at a4 |-;obtain ⟨l4,c4,n4⟩:=a4;have c41:v4.cell? (AD v3.heap.size 1)=some (VU rv):=c4 1;have n14:=bst n13 n4;have H11:Hid (v4.heap[w.heap.size]?=some (.cells #[VI 0,VI 0,VU 0,SN] 138 (0,0))):=ae H10.out n4 l3;clear c4 n13 n4 H10;refine (iz rv lv v4 hrb.1 hrb.2 (by omega) (by omega)).mono ?_;rintro e w' ⟨rfl,nk,rfl⟩;rw [hk.out];have n15:Bw w (v4.drewN nk):=below_drewN n14 nk;have c51:(v4.drewN nk).cell? (AD v3.heap.size 1)=some (VU rv):=c41;have H12:Hid ((v4.drewN nk).heap[w.heap.size]?=some (.cells #[VI 0,VI 0,VU 0,SN] 138 (0,0))):=H11;have l5:v3.heap.size<(v4.drewN nk).heap.size:=l4;generalize v4.drewN nk=v5 at n15 c51 H12 l5 |-;clear n14 c41 H11 l4;obtain ⟨⟨d0,d1,d2,d3⟩,e0,e1,e2,e3⟩:=aP H12.out;have l6:w.heap.size<v5.heap.size:=Nat.lt_trans l3 l5;have ne1:v5.heap.size≠v3.heap.size:=by omega
 have ne2:w.heap.size≠v3.heap.size:=by omega
 have ne3:v3.heap.size≠w.heap.size:=by omega
 go_wp2;go_region_held3 (fun w'=>w'.cell? (AD v3.heap.size 1)=some (VU rv)) (go_keep)
  (first | (go_at_call 133;refine (uR _ _ _ _).mono ?_;rintro e w' ⟨rfl,rfl⟩))
 go_wp2_with fail;refine bodyPost_ret (v:=.agg #[VI 1,VI lv,VU rv,SL v5.heap.size 1 1]) (by simp [results,Tryz.results95,go_sem,d0,d1,d2,d3,l6]) rfl
  ⟨⟨some (AD v5.heap.size 0),1,rfl,GK _ _ (by simp [World.setCell]) _ 1 3 (cG [(lv,64*n+8*ix,rv)]) (uQ _) (by decide),(by intro h;cases h),(by intro q hq;cases hq;exact ⟨rfl,Nat.le_of_lt l6⟩),nle⟩,?_⟩
 exact ((Db n15 nle _ _ _ _).alloc (by simpa [World.setCell] using n15.size) _).drew
theorem aE {v:World} {p:Nat} {T:TypeId} {a b c:Value} (h:v.heap[p]?=some (.cells #[a,b,c] T (0,0))):
 (v.cell? (AD p 0)=some a∧v.cell? (AD p 1)=some b∧v.cell? (AD p 2)=some c)∧v.frozen? (AD p 0)=false∧v.frozen? (AD p 1)=false∧v.frozen? (AD p 2)=false:=by
 simp [World.cell?,World.frozen?,h]
theorem Ib {v:World} {p:Nat} {T:TypeId} {a b c u:Value} (h:v.heap[p]?=some (.cells #[a,b,c] T (0,0))):(v.setCell (AD p 0) u).heap[p]?=some (.cells #[u,b,c] T (0,0)):=by
 simp [World.setCell,Array.getElem?_modify,h]
theorem Ic {v:World} {p:Nat} {T:TypeId} {a b c u:Value} (h:v.heap[p]?=some (.cells #[a,b,c] T (0,0))):(v.setCell (AD p 2) u).heap[p]?=some (.cells #[a,b,u] T (0,0)):=by
 simp [World.setCell,Array.getElem?_modify,h]
theorem gb3 (v:World) (g:Nat) (x y z:Value):v.grownBy (((v.setCell (AD g 0) x).setCell (AD g 1) y).setCell (AD g 2) z) (some g):=
 au (au (au (ak v (some g)) 0 x) 1 y) 2 z
theorem kT {B:Nat} {a w:World} {g:Nat} (h:Below B a w) (hg:B<=g) (x y z:Value):Below B a (((w.setCell (AD g 0) x).setCell (AD g 1) y).setCell (AD g 2) z):=
 ((h.setCell (p:=(AD g 0)) hg x).setCell (p:=(AD g 1)) hg y).setCell (p:=(AD g 2)) hg z
theorem bW {e:TypeId} {size:Nat} {w:World} {base base' n:Nat} {v:Value} {cs:List Value} (h:w.ownsRow base e size v n cs) (hb:base'<=base):w.ownsRow base' e size v n cs:=by
 obtain ⟨h1,h2⟩:=h;refine ⟨h1,?_⟩;rcases h2 with h2 | ⟨g,cap,cur,h2,hb',r⟩
 ·exact .inl h2
 ·exact .inr ⟨g,cap,cur,h2,by omega,r⟩
theorem aD {e:TypeId} {size:Nat} {w w':World} {base n r:Nat} {v:Value} {cs:List Value} (h:w.ownsRow base e size v n cs) (hg:w.grownBy w' (some r)) (hr:r<base):w'.ownsRow base e size v n cs:=by
 refine h.kept hg ?_;rcases h.2 with ⟨rfl,_⟩ | ⟨g,cap,cur,rfl,hb',_⟩
 ·exact .inl rfl
 ·refine .inr ?_;simp [Value.ownBlock];omega
theorem aq {e:TypeId} {size:Nat} {w w':World} {base n:Nat} {v:Value} {cs:List Value} (h:w.ownsRow base e size v n cs) (hb:Bw w w'):w'.ownsRow base e size v n cs:=by
 obtain ⟨h1,h2⟩:=h;refine ⟨h1,?_⟩;rcases h2 with h2 | ⟨g,cap,cur,h2,hb',hg,r⟩
 ·exact .inl h2
 ·refine .inr ⟨g,cap,cur,h2,hb',?_,r⟩;exact ae hg hb (hpl hg)
theorem rG {P:Program} (w:World) {o:Oper} {a:Act} {K:Act->World->Prop} {Q:Exit->Act->World->Prop} (s x:Operand) (t:TypeId)
 (ho:o.op=.call { callee:=.builtin .append,args:=#[s,x],argTypes:=#[t,t] }) (e:TypeId) (ht:P.underlying t=some (.slice e)) (z:Value) (size bytes:Nat)
 (hi:(P.info? e).map (fun i=>(i.zero,i.size,i.bytes))=some (some z,size,bytes)) (hzs:z.cells.size=size) (hsz:0<size)
 (base n:Nat) (v:Value) (cs:List Value) (hs:a.eval s=v) (hown:w.ownsRow base e size v n cs)
 (b off m c:Nat) (ys:List Value) (hx:a.eval x=.slice (some (AD b off)) m c) (hm:0<m) (hy:RowC w (some (AD b off)) m size ys) (h1:∀u∈ys,u.oneCell'=true)
 (hbd:(n+m)*bytes<=140737488355328) (hbd':n+m<=9223372036854775807)
 (hbw:base<=w.heap.size) (B:Nat) (W:World) (hb:Below B W w) (hB:B<=base)
 (h:∀g' cap' w',w'.ownsRow base e size (SL g' (n+m) cap') (n+m) (cs++ys)->Below B W w'->K (a.put o.dst (SL g' (n+m) cap')) w'):o.wp P a w K Q:=by
 obtain ⟨i0,hi,hz0,hz1,hz2⟩:=info_parts hi;refine wp_append_own w s x t ho base e i0 z size bytes ht hi hz0 hz1 hz2 hzs hsz v n _ hs hown (AD b off) m c ys hx hy.1 (pI hy) h1 (by unfold maxLen;omega) hbd (by omega) ?_;intro v' w' h1 h2 h3;have hbl:=hb.grown h2 (by omega) (fun k hk=>by have:=(hown.lt k hk).1;omega);rcases h1.2 with ⟨e1,e2⟩ | ⟨g,cap,cur,e1,r⟩
 ·omega
 ·subst e1;exact h g cap w' h1 hbl
theorem mM {P:Program} (w:World) {ops:Array Oper} {rest:List Oper} {o:Oper} {a:Act} {Q:Exit->Act->World->Prop} (hgd:o.guard=none) (s x:Operand) (t:TypeId)
 (ho:o.op=.call { callee:=.builtin .append,args:=#[s,x],argTypes:=#[t,t] }) (e:TypeId) (ht:P.underlying t=some (.slice e)) (z:Value) (size bytes:Nat)
 (hi:(P.info? e).map (fun i=>(i.zero,i.size,i.bytes))=some (some z,size,bytes)) (hzs:z.cells.size=size) (hsz:0<size)
 (base n:Nat) (v:Value) (cs:List Value) (hs:a.eval s=v) (hown:w.ownsRow base e size v n cs)
 (b off m c:Nat) (ys:List Value) (hx:a.eval x=.slice (some (AD b off)) m c) (hm:0<m) (hy:RowC w (some (AD b off)) m size ys) (h1:∀u∈ys,u.oneCell'=true)
 (hbd:(n+m)*bytes<=140737488355328) (hbd':n+m<=9223372036854775807)
 (hbw:base<=w.heap.size) (B:Nat) (W:World) (hb:Below B W w) (hB:B<=base)
 (h:∀g' cap' w',w'.ownsRow base e size (SL g' (n+m) cap') (n+m) (cs++ys)->Below B W w'->wpList P ops Q rest (a.put o.dst (SL g' (n+m) cap')) w'):wpList P ops Q (o::rest) a w:=
 wpList_plain hgd fun _ hK=>rG w s x t ho e ht z size bytes hi hzs hsz base n v cs hs hown b off m c ys hx hm hy h1 hbd hbd' hbw B W hb hB fun g' cap' w' h2 h3=>hK _ _ (h g' cap' w' h2 h3)
theorem tQ {e:TypeId} {size:Nat} {w:World} {base n:Nat} {v:Value} {cs:List Value} (h:w.ownsRow base e size v n cs):w.drew.ownsRow base e size v n cs:=h
def CurAt (e:TypeId) (w:World) (g m:Nat) (cs:List Value):Prop:=cs.length=m∧∃cur,w.heap[g]?=some (.cells cur e (0,0))∧cur.toList.take m=cs
theorem CurAt.lt {e:TypeId} {w:World} {g m:Nat} {cs:List Value} (h:CurAt e w g m cs):g<w.heap.size:=by
 obtain ⟨_,cur,h2,_⟩:=h;exact (hpl h2)
theorem CurAt.cell {e:TypeId} {w:World} {g m:Nat} {cs:List Value} (h:CurAt e w g m cs) (j:Nat) (u:Value) (hj:cs[j]?=some u):w.cell? (AD g j)=some u:=by
 obtain ⟨h1,cur,h2,h3⟩:=h;subst h3;rw [List.getElem?_take] at hj;split at hj
 ·simp only [World.cell?,h2];simpa using hj
 ·cases hj
theorem CurAt.free {e:TypeId} {w:World} {g m:Nat} {cs:List Value} (h:CurAt e w g m cs) (j:Nat):w.frozen? (AD g j)=false:=by
 obtain ⟨h1,cur,h2,h3⟩:=h;simp [World.frozen?,h2]
theorem CurAt.store {e:TypeId} {w:World} {g m:Nat} {cs:List Value} (h:CurAt e w g m cs) (j:Nat) (u:Value):CurAt e (w.setCell (AD g j) u) g m (cs.set j u):=by
 obtain ⟨h1,cur,h2,h3⟩:=h;refine ⟨by simpa using h1,cur.setIfInBounds j u,by simp [World.setCell,Array.getElem?_modify,h2],?_⟩;subst h3;rw [Array.toList_setIfInBounds,List.take_set]
theorem CurAt.gb {e:TypeId} {w w':World} {g m r:Nat} {cs:List Value} (h:CurAt e w g m cs) (hg:w.grownBy w' (some r)) (hne:g≠r):CurAt e w' g m cs:=by
 obtain ⟨h1,cur,h2,h3⟩:=h;exact ⟨h1,cur,aA h2 hg hne,h3⟩
theorem CurAt.of_own {e:TypeId} {size:Nat} {w:World} {base g n cap:Nat} {cs:List Value} (h:w.ownsRow base e size (SL g n cap) n cs):CurAt e w g (n*size) cs∧base<=g:=by
 obtain ⟨h1,h2⟩:=h;rcases h2 with ⟨h2,_⟩ | ⟨g',cap',cur,h2,hb,hg,_,_,_,ht⟩
 ·cases h2
 ·cases h2;exact ⟨⟨h1,cur,hg,ht⟩,hb⟩
theorem eI {e:TypeId} {size:Nat} {w:World} {base n:Nat} {a:Option Addr} {cap:Nat} {cs:List Value} (h:w.ownsRow base e size (.slice a n cap) n cs):RowC w a n size cs:=by
 cases a with
 | none=>
  obtain ⟨h1,h2⟩:=h;rcases h2 with ⟨_,h2⟩ | ⟨g',cap',cur,h2,_⟩
  ·subst h2;exact ⟨h1,.inl rfl⟩
  ·cases h2
 | some q=>
  have hq:q=(AD q.block 0):=by
   obtain ⟨h1,h2⟩:=h;rcases h2 with ⟨h2,_⟩ | ⟨g',cap',cur,h2,_⟩
   ·cases h2
   ·cases h2;rfl
  rw [hq] at h |-;have:=CurAt.of_own h;refine ⟨h.1,.inr ⟨q.block,0,rfl,this.1.lt,fun i u hu=>?_⟩⟩;rw [Nat.zero_add];exact this.1.cell i u hu
theorem db {e:TypeId} {size:Nat} {w:World} {base n cap:Nat} {q:Addr} {cs:List Value} (h:w.ownsRow base e size (.slice (some q) n cap) n cs):q=(AD q.block 0)∧base<=q.block∧q.block<w.heap.size:=by
 rcases h.2 with ⟨h2,_⟩ | ⟨g',cap',cur,h2,hb,hg,_⟩
 ·cases h2
 ·cases h2;exact ⟨rfl,hb,(hpl hg)⟩
theorem ex {a b c:World} {r:Option Nat} (h:a.grownBy b r) (k:b.grownBy c r):a.grownBy c r:=
 ⟨k.os.trans h.os,k.tape.trans h.tape,k.output.trans h.output,Nat.le_trans h.size k.size,fun i hi hn=>(k.block i (ltl hi h.size) hn).trans (h.block i hi hn)⟩
theorem ah {w w':World} {b:Nat} {o:Obj} (h:Hid (w.heap[b]?=some o)) (n:Bw w w'):Hid (w'.heap[b]?=some o):=ae h.out n (hpl h.out)
theorem bu {e:TypeId} {size:Nat} {w:World} {base g n cap:Nat} {cs:List Value} (h:w.ownsRow base e size (SL g n cap) n cs) (j:Nat) (u:Value):
 (w.setCell (AD g j) u).ownsRow base e size (SL g n cap) n (cs.set j u):=by
 obtain ⟨h1,h2⟩:=h;refine ⟨by simpa using h1,?_⟩;rcases h2 with ⟨h2,_⟩ | ⟨g',cap',cur,h2,hb,hg,hc1,hc2,hc3,ht⟩
 ·cases h2
 ·cases h2;refine .inr ⟨g,cap,cur.setIfInBounds j u,rfl,hb,by simp [World.setCell,Array.getElem?_modify,hg],hc1,hc2,by simpa using hc3,?_⟩;subst ht;rw [Array.toList_setIfInBounds,List.take_set]
theorem aM {e:TypeId} {size:Nat} {w:World} {base g n cap:Nat} {cs:List Value} (h:w.ownsRow base e size (SL g n cap) n cs) (j:Nat) (u:Value) (hj:cs[j]?=some u):w.cell? (AD g j)=some u:=
 (CurAt.of_own h).1.cell j u hj
theorem bQ {e:TypeId} {size:Nat} {w:World} {base g n cap:Nat} {cs:List Value} (h:w.ownsRow base e size (SL g n cap) n cs) (j:Nat):w.frozen? (AD g j)=false:=
 (CurAt.of_own h).1.free j
theorem mH {a b c:World} {r:Option Nat} (h:a.grownBy b r) (k:Bw b c):a.grownBy c r:=
 ⟨k.os.trans h.os,k.tape.trans h.tape,k.output.trans h.output,Nat.le_trans h.size k.size,fun i hi hn=>(k.block i (ltl hi h.size)).trans (h.block i hi hn)⟩
theorem rY {a b:World} {r g o:Nat} {x:Option Value} (h:a.grownBy b (some r)) (hc:a.cell? (AD g o)=x) (hg:g<a.heap.size) (hne:g≠r):b.cell? (AD g o)=x:=
 (World.cell?_of_block (h.block g hg (by simpa using hne))).trans hc
theorem Ft {a b:World} {r n size:Nat} {q:Option Addr} {cs:List Value} (h:RowC a q n size cs) (hg:a.grownBy b (some r)) (hr:a.heap.size<=r∨∀x,q=some x->x.block≠r):RowC b q n size cs:=by
 obtain ⟨h1,h2⟩:=h;refine ⟨h1,?_⟩;rcases h2 with h2 | ⟨bk,off,rfl,hlt,hc⟩
 ·exact .inl h2
 ·refine .inr ⟨bk,off,rfl,ltl hlt hg.size,fun i u hu=>?_⟩;exact rY hg (hc i u hu) hlt (by
   rcases hr with hr | hr
   ·omega
   ·exact hr _ rfl)
theorem dz {P:Program} {id:Nat} {Q:Exit->Act->World->Prop} {a:Act} {w:World} {l:List Oper} (n:Nat) (hm:P.follows .mixedOrders=true) (hB:Region.lexTailB .any l.toArray n=true)
 (h:wpStill P l.toArray w.drew (fun a'=>wpList P l.toArray Q (l.drop n) a' w.drew) (l.take n) a):(Code.region id l.toArray true).wp P Q a w:=
 wp_region_still_tail n hm hB h
structure Lies (v:World) where
 w:World
 h:Bw v w
theorem eU (v:World):Nonempty (Lies v):=⟨⟨v,brf⟩⟩
theorem gJ {P:Program} {f:FuncId} {args:Array Value} {v:World} (u:Lies v) {x:Value} (h:Calls P f args u.w fun e w'=>e=.returned x∧Below u.w.heap.size u.w w'):
 Calls P f args u.w fun e w''=>e=.returned x∧∃u':Lies v,w''=u'.w:=
 h.mono fun e w' ⟨he,hb⟩=>⟨he,⟨w',bst u.h hb⟩,rfl⟩
theorem kD {P:Program} {f:FuncId} {args:Array Value} {v:World} (u:Lies v) {x:Value} (h:Calls P f args u.w fun e w'=>e=.returned x∧w'=u.w):
 Calls P f args u.w fun e w''=>e=.returned x∧∃u':Lies v,w''=u'.w:=
 h.mono fun e w' ⟨he,hb⟩=>⟨he,u,hb⟩
theorem aN {v:World} {b o:Nat} {x:Value} (hc:v.cell? (AD b o)=some x) (hb:b<v.heap.size) (u:Lies v):u.w.cell? (AD b o)=some x:=Below.cell2 u.h hc hb
theorem da {P:Program} {id:Nat} {Q:Exit->Act->World->Prop} {a:Act} {w:World} {l:List Oper} (hm:P.follows .mixedOrders=true) (hB:Region.lexB .any l.toArray=true)
 (h:wpQuiet P l.toArray (fun w'=>∃u:Lies w,w'=u.w) (fun a'=>∀w',(∃u:Lies w,w'=u.w)->Q .normal a' w') l a):(Code.region id l.toArray true).wp P Q a w:=
 wp_region_quiet (C:=fun w'=>∃u:Lies w,w'=u.w) hm hB ⟨⟨w.drew,(brf).drew⟩,rfl⟩ (by simpa using h)
section
variable {P:Program} {ops:Array Oper} {Q:Exit->Act->World->Prop} {rest:List Oper} {a:Act}
theorem aZ {d:Tmp} {T ty:TypeId} {x:Operand} {pos:String} {af:Array Edge} {w:World} {b o:Nat} {V:Value} (hx:a.eval x=PT b o) (hl:(Instr.loadAt T (PT b o)).run P w=.ok V w)
 (h:wpList P ops Q rest (a.put (some d) V) w):wpList P ops Q ({ dst:=some d,op:=.load T x,type:=ty,pos:=pos,after:=af,guard:=none }::rest) a w:=
 wpList_plain rfl fun K hK=>by
  unfold Oper.wp execOp;simp only [hx,Sem.run_bind,hl,Result.andThen_ok,Sem.run_pure];exact hK _ _ h
theorem ax {T ty:TypeId} {x y:Operand} {pos:String} {af:Array Edge} {w w':World} {b o:Nat} {V:Value} (hx:a.eval x=PT b o) (hy:a.eval y=V) (hl:(Instr.storeAt T (PT b o) V).run P w=.ok () w')
 (h:wpList P ops Q rest (a.put none undef) w'):wpList P ops Q ({ dst:=none,op:=.store T x y,type:=ty,pos:=pos,after:=af,guard:=none }::rest) a w:=
 wpList_plain rfl fun K hK=>by
  unfold Oper.wp execOp;simp only [hx,hy,Sem.run_bind,hl,Result.andThen_ok,Sem.run_pure];exact hK _ _ h
end
theorem vL {w:World} {b:Nat} {C:Array Value} {t:TypeId} {fr:Nat × Nat} (hb:w.heap[b]?=some (.cells C t fr)) {o n:Nat} {L:List Value} (hL:(C.toList.drop o).take n=L):w.rangeAt b o L:=by
 intro j v hv;rw [<-hL,List.getElem?_take] at hv;split at hv
 ·rw [List.getElem?_drop] at hv;simp only [World.cell?,hb];simpa using hv
 ·cases hv
theorem ez {P:Program} {w:World} {b:Nat} {C:Array Value} {t:TypeId} {fr:Nat × Nat} (hb:w.heap[b]?=some (.cells C t fr)) {T:TypeId} {d:TypeDesc} (hu:P.underlying T=some d) (hd:d.isRow=true) {o n:Nat} (L:List Value) (hi:(P.info? T).map (·.size)=some n) (hL:(C.toList.drop o).take n=L) (hn:L.length=n):
 (Instr.loadAt T (PT b o)).run P w=.ok (.agg L.toArray) w:=
 run_loadAt_mid w b o T L d (vL hb hL) hu hd (by rw [hn];exact hi)
theorem zS {P:Program} {w:World} {b:Nat} {C:Array Value} {t:TypeId} {fr:Nat × Nat} (hb:w.heap[b]?=some (.cells C t fr)) {T:TypeId} {d:TypeDesc} (hu:P.underlying T=some d) (hd:d.isRow=true) {o n:Nat} (L:List Value) (hi:(P.info? T).map (·.size)=some n) (hL:(C.toList.drop o).take n=L) (hn:L.length=n):
 (loadVar T (AD b o)).run P w=.ok (.agg L.toArray) w:=
 run_loadVar_mid w b o T L d (vL hb hL) hu hd (by rw [hn];exact hi)
def ky (C:Array Value) (o:Nat) (L:List Value):Array Value:=(C.toList.take o++L++C.toList.drop (o+L.length)).toArray
theorem dC (b:Nat):∀(L:List Value) (o:Nat) (w:World) (C:Array Value) (t:TypeId) (fr:Nat × Nat),w.heap[b]?=some (.cells C t fr)->o+L.length<=C.size->(w.setCells b o L).heap[b]?=some (.cells (ky C o L) t fr)
 | [],o,w,C,t,fr,h,hl=>by simp [World.setCells,ky,h]
 | v::L,o,w,C,t,fr,h,hl=>by
  simp only [List.length_cons] at hl;have h1:(w.setCell (AD b o) v).heap[b]?=some (.cells (C.setIfInBounds o v) t fr):=by
   simp [World.setCell,Array.getElem?_modify,h]
  have h2:=dC b L (o+1) _ _ t fr h1 (by simp;omega);have e:ky (C.setIfInBounds o v) (o+1) L=ky C o (v::L):=by
   unfold ky;congr 1;simp only [Array.toList_setIfInBounds,List.length_cons];have hlen:o<C.toList.length:=by simpa using (by omega:o<C.size)
   rw [List.take_add_one,List.take_set_of_le nle,List.getElem?_set_self hlen,List.drop_set_of_lt (by omega),show o+1+L.length=o+(L.length+1) by omega];simp
  rw [<-e];exact h2
theorem aG (b:Nat):∀(L:List Value) (o:Nat) (w v:World),w.grownBy v (some b)->w.grownBy (v.setCells b o L) (some b)
 | [],o,w,v,h=>h
 | x::L,o,w,v,h=>aG b L (o+1) w _ (au h o x)
theorem fG {P:Program} {w:World} {b:Nat} {C:Array Value} {t:TypeId} (hb:w.heap[b]?=some (.cells C t (0,0))) {T:TypeId} {o:Nat} {V:Array Value} (hi:(P.info? T).map (·.size)=some V.size) (hs:o+V.size<=C.size) (h1:V.all (·.oneCell')=true):
 (Instr.storeAt T (PT b o) (.agg V)).run P w=.ok () (w.setCells b o V.toList):=by
 refine run_storeAt_mid w b o T V (fun j hj=>?_) hi h1;refine ⟨?_,?_⟩
 ·have:o+j<C.size:=by omega
  simp [World.cell?,hb,this]
 ·simp [World.frozen?,hb]
theorem bC {w:World} {b:Nat} {C:Array Value} {t:TypeId} {fr:Nat × Nat} (hb:w.heap[b]?=some (.cells C t fr)) (i:Nat) (v:Value):(w.setCell (AD b i) v).heap[b]?=some (.cells (C.setIfInBounds i v) t fr):=by
 simp [World.setCell,Array.getElem?_modify,hb]
theorem ab {w:World} {b:Nat} {C:Array Value} {t:TypeId} {fr:Nat × Nat} (hb:w.heap[b]?=some (.cells C t fr)) (i:Nat) {v:Value} (hv:C[i]?=some v):w.cell? (AD b i)=some v:=by
 simp [World.cell?,hb,hv]
theorem ap {w:World} {b:Nat} {C:Array Value} {t:TypeId} (hb:w.heap[b]?=some (.cells C t (0,0))) (i:Nat):w.frozen? (AD b i)=false:=by
 simp [World.frozen?,hb]
theorem qX {w w':World} {b r:Nat} {o:Obj} (h:w.heap[b]?=some o) (hg:w.grownBy w' (some r)) (hne:b≠r):w'.heap[b]?=some o:=aA h hg hne
theorem cx {w:World} {b r:Nat} {o:Obj} (h:w.heap[b]?=some o) (i:Nat) (v:Value) (hne:b≠r):(w.setCell (AD r i) v).heap[b]?=some o:=by
 rw [<-h];simp [World.setCell,Array.getElem?_modify,Ne.symm hne]
theorem iw {w:World} {b r:Nat} {o:Obj} (h:w.heap[b]?=some o) (i:Nat) (L:List Value) (hne:b≠r):(w.setCells r i L).heap[b]?=some o:=
 aA h (aG r L i w w (ak w (some r))) hne
theorem bP {B:Nat} {a w:World} {g:Nat} (h:Below B a w) (hg:B<=g) (i:Nat) (v:Value):Below B a (w.setCell (AD g i) v):=h.setCell hg _
theorem aJ {B:Nat} {a:World} {g:Nat} (hg:B<=g):∀(L:List Value) (o:Nat) (w:World),Below B a w->Below B a (w.setCells g o L)
 | [],o,w,h=>h
 | x::L,o,w,h=>aJ hg L (o+1) _ (h.setCell hg _)
theorem cJ (b:Nat):∀(L:List Value) (o:Nat) (w:World),(w.setCells b o L).heap.size=w.heap.size
 | [],o,w=>rfl
 | x::L,o,w=>by
  rw [World.setCells,cJ b L (o+1)];simp
theorem FW (C V:Array Value) (h:V.size=C.size):ky C 0 V.toList=V:=by
 unfold ky;rw [List.take_zero,List.drop_of_length_le (by simp [h])];simp
theorem aT {P:Program} {w:World} {b:Nat} {C:Array Value} {t:TypeId} {fr:Nat × Nat} (hb:w.heap[b]?=some (.cells C t fr)) {T:TypeId} {d:TypeDesc} (hu:P.underlying T=some d) (hd:d.isRow=true) (hi:(P.info? T).map (·.size)=some C.size):
 (Instr.loadAt T (PT b 0)).run P w=.ok (.agg C) w:=by
 have:=ez (P:=P) hb hu hd (o:=0) C.toList hi (by rw [List.drop_zero,List.take_of_length_le (by simp)]) (by simp);simpa using this
theorem bE {P:Program} {w:World} {b:Nat} {C:Array Value} {t:TypeId} {fr:Nat × Nat} (hb:w.heap[b]?=some (.cells C t fr)) {T:TypeId} {d:TypeDesc} (hu:P.underlying T=some d) (hd:d.isRow=true) (hi:(P.info? T).map (·.size)=some C.size):
 (loadVar T (AD b 0)).run P w=.ok (.agg C) w:=by
 have:=zS (P:=P) hb hu hd (o:=0) C.toList hi (by rw [List.drop_zero,List.take_of_length_le (by simp)]) (by simp);simpa using this
theorem aR {P:Program} {w:World} {b:Nat} {C V:Array Value} {t:TypeId} (hb:w.heap[b]?=some (.cells C t (0,0))) {T:TypeId} (hi:(P.info? T).map (·.size)=some V.size) (hs:V.size=C.size) (h1:V.all (·.oneCell')=true):
 (Instr.storeAt T (PT b 0) (.agg V)).run P w=.ok () (w.setCells b 0 V.toList):=
 fG hb hi (by omega) h1
theorem aH {w:World} {b:Nat} {C V:Array Value} {t:TypeId} {fr:Nat × Nat} (hb:w.heap[b]?=some (.cells C t fr)) (hs:V.size=C.size):(w.setCells b 0 V.toList).heap[b]?=some (.cells V t fr):=by
 rw [dC b V.toList 0 w C t fr hb (by simp;omega),FW C V hs]
theorem qx {C:Array Value} (h:C.all (·.oneCell')=true) (i:Nat) {v:Value} (hv:v.oneCell'=true):(C.setIfInBounds i v).all (·.oneCell')=true:=by
 rw [Array.all_eq_true_iff_forall_mem] at h |-;intro x hx;rcases Array.mem_or_eq_of_mem_setIfInBounds hx with hx | rfl
 ·exact h x hx
 ·exact hv
theorem dE {P:Program} {fn:Func} {R:Ending->World->Prop} {a:Act} {w:World} {s:Tmp} {T:TypeId} {b:Nat} {V:Value} (hr:fn.results=#[ResultVar.cell s T]) (hs:a.tmps[s]?=some (PT b 0)) (hl:(loadVar T (AD b 0)).run P w=.ok V w) (hd:a.defers=[]) (hR:R (.returned V) w):bodyPost P fn R .ret a w:=by
 refine bodyPost_ret (v:=V) ?_ hd hR;simp [results,hr,hs,asAddr,hl]
theorem cC {e T:TypeId} {size base n pb:Nat} {w:World} {s:Value} {cs:List Value} {cur:Array Value} {q:Nat × Nat} (h:w.ownsRow base e size s n cs) (hp:w.heap[pb]?=some (.cells cur T q)) (hT:T≠e):s.ownBlock≠some pb:=by
 rcases h.2 with ⟨h1,_⟩ | ⟨g,cap,cur',h1,_,h3,_⟩
 ·rw [h1];simp [Value.ownBlock]
 ·rw [h1];simp only [Value.ownBlock];intro he;have:g=pb:=Option.some.inj he;subst this;rw [h3] at hp;cases hp;exact hT rfl
theorem bA {e T:TypeId} {size base n pb:Nat} {w w':World} {s:Value} {cs:List Value} {cur:Array Value} {q:Nat × Nat} (h:w.ownsRow base e size s n cs) (hp:w.heap[pb]?=some (.cells cur T q)) (hT:T≠e) (hg:w.grownBy w' (some pb)):w'.ownsRow base e size s n cs:=
 h.kept hg (.inr (cC h hp hT))
theorem aK {P:Program} {a:Act} {d:Option Tmp} {T ty:TypeId} {x:Operand} {pos:String} {af:Array Edge} {g:Option (Nat × Bool)} {w:World} {b o:Nat} {V:Value} (hx:a.eval x=PT b o) (hl:(Instr.loadAt T (PT b o)).run P w=.ok V w):
 (execOp a.eval { dst:=d,op:=.load T x,type:=ty,pos:=pos,after:=af,guard:=g }).run P w=.ok (.value V) w:=by
 unfold execOp;simp only [hx,Sem.run_bind,hl,Result.andThen_ok,Sem.run_pure]
end Go.Proofs.YtkenjknmfhoppaaGreat
