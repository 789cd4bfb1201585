import Derived.Deep.RegionLaw
import Derived.Test.YtpdddbobhndbjaaGreatPk02
namespace Go.Proofs.YtpdddbobhndbjaaGreat
open Go.RowKit
set_option linter.unusedVariables false
set_option maxHeartbeats 6400000
set_option maxRecDepth 20000
def ru (r:dQ):List Value:=[.int .i64 r.1,.int .u64 r.2.1,.int .u64 r.2.2]
def cP:List dQ->List Value
 | []=>[]
 | r::rs=>ru r++cP rs
theorem tB:∀rs:List dQ,(cP rs).length=rs.length*3
 | []=>rfl
 | r::rs=>by simp [cP,ru,tB rs];omega
theorem lL:∀rs:List dQ,∀u∈cP rs,u.oneCell'=true
 | [],u,h=>by simp [cP] at h
 | r::rs,u,h=>by
  simp only [cP,List.mem_append] at h;rcases h with h | h
  ·simp [ru] at h;rcases h with rfl | rfl | rfl <;> rfl
  ·exact lL rs u h
theorem az {w:World} {g:Nat} {T:TypeId} {a b c d:Value} (h:w.heap[g]?=some (.cells #[a,b,c,d] T (0,0))):
 (w.cell? ⟨g,0,none⟩=some a∧w.cell? ⟨g,1,none⟩=some b∧w.cell? ⟨g,2,none⟩=some c∧w.cell? ⟨g,3,none⟩=some d)∧
 (w.frozen? ⟨g,0,none⟩=false∧w.frozen? ⟨g,1,none⟩=false∧w.frozen? ⟨g,2,none⟩=false∧w.frozen? ⟨g,3,none⟩=false):=by
 simp [World.cell?,World.frozen?,h]
theorem jW (va level:Int) (w:World) (h0:0<=va) (h1:va<=18446744073709551615) (hl:0<=level) (hl':level<=2):
 Calls Tryz.prog 139 #[.int .u64 va,.int .i64 level] w fun e w'=>e=.returned (.int .u64 (dN va level))∧∃n,w'=w.drewN n:=by
 rcases (show level=0∨level=1∨level=2 by omega) with rfl | rfl | rfl
 ·go_enter Tryz.func139,Tryz.ntmps139;go_wp2_with fail;refine (bK va 6 8 64 8 w h0 h1 (by omega) (by omega) (by omega) (by omega) rfl rfl).mono ?_;rintro e w' ⟨rfl,nq,rfl⟩;go_wp2_with fail;go_ret;exact ⟨rfl,nq,rfl⟩
 ·go_enter Tryz.func139,Tryz.ntmps139;go_wp2_with fail;refine (bK va 9 11 512 8 w h0 h1 (by omega) (by omega) (by omega) (by omega) rfl rfl).mono ?_;rintro e w' ⟨rfl,nq,rfl⟩;go_wp2_with fail;go_ret;exact ⟨rfl,nq,rfl⟩
 ·go_enter Tryz.func139,Tryz.ntmps139;go_wp2_with fail;refine (bK va 12 14 4096 8 w h0 h1 (by omega) (by omega) (by omega) (by omega) rfl rfl).mono ?_;rintro e w' ⟨rfl,nq,rfl⟩;go_wp2_with fail;go_ret;exact ⟨rfl,nq,rfl⟩
theorem Tryz.infoRec:(Tryz.prog.info? 223).map (fun i=>(i.zero,i.size,i.bytes))=some (some (.agg #[.int .i64 0,.int .u64 0,.int .u64 0]),3,24):=by kernel_rfl
theorem tC (l a v:Int) (w:World):
 Calls Tryz.prog 140 #[.int .i64 l,.int .u64 a,.int .u64 v] w fun e w'=>
  e=.returned (.slice (some ⟨w.heap.size,0,none⟩) 1 1)∧w'=w.alloc (.cells #[.int .i64 l,.int .u64 a,.int .u64 v] 223):=by
 go_enter Tryz.func140,Tryz.ntmps140;go_wp2_with fail;go_ret;exact ⟨rfl,rfl⟩
theorem qG (va level:Int):0<=dN va level∧dN va level<=7:=by
 unfold dN;split
 ·omega
 ·split <;> omega
theorem mH (zs:List Int) (a n:Int) (hn:n<=8) (h:∀i:Nat,0<=zs[i]?.getD 0∧zs[i]?.getD 0<=255):0<=rdV zs a n∧rdV zs a n<=18446744073709551615:=by
 unfold rdV;split
 ·have:=fT zs a.toNat n.toNat h;have hp:(256:Int)^n.toNat<=18446744073709551616:=by
   rcases (show n.toNat=0∨n.toNat=1∨n.toNat=2∨n.toNat=3∨n.toNat=4∨n.toNat=5∨n.toNat=6∨n.toNat=7∨n.toNat=8 by omega) with h | h | h | h | h | h | h | h | h <;> rw [h] <;> decide
  omega
 ·omega
theorem DT {v:World} {p:Nat} {T:TypeId} {a b c d u:Value} (h:v.heap[p]?=some (.cells #[a,b,c,d] T (0,0))):(v.setCell ⟨p,3,none⟩ u).heap[p]?=some (.cells #[a,b,c,u] T (0,0)):=by
 simp [World.setCell,Array.getElem?_modify,h]
theorem gb4 (v:World) (g:Nat) (x y z u:Value):v.grownBy ((((v.setCell ⟨g,0,none⟩ x).setCell ⟨g,1,none⟩ y).setCell ⟨g,2,none⟩ z).setCell ⟨g,3,none⟩ u) (some g):=
 ak (ak (ak (ak (aq v (some g)) 0 x) 1 y) 2 z) 3 u
theorem oZ {B:Nat} {a w:World} {g:Nat} (h:Below B a w) (hg:B<=g) (x y z u:Value):Below B a ((((w.setCell ⟨g,0,none⟩ x).setCell ⟨g,1,none⟩ y).setCell ⟨g,2,none⟩ z).setCell ⟨g,3,none⟩ u):=
 (((h.setCell (p:=⟨g,0,none⟩) hg x).setCell (p:=⟨g,1,none⟩) hg y).setCell (p:=⟨g,2,none⟩) hg z).setCell (p:=⟨g,3,none⟩) hg u
theorem Ch (V:World) (g:Nat) (hg:V.heap.size=g) (e:TypeId) (n size:Nat) (cs:List Value) (hn:cs.length=n*size) (hm:n<=maxLen):RowC (V.alloc (.cells cs.toArray e)).drew (some ⟨g,0,none⟩) n size cs:=by
 subst hg;exact (OwnC.new e size V cs n hn hm).row
def kO (base:Nat) (w':World) (e:Ending) (r:Int × Int × Int × List dQ):Prop:=
 ∃a cap,e=.returned (.agg #[.int .i64 r.1,.int .i64 r.2.1,.int .u64 r.2.2.1,.slice a r.2.2.2.length cap])∧RowC w' a r.2.2.2.length 3 (cP r.2.2.2)∧
  (a=none->r.2.2.2.length=0∧cap=0)∧(∀q,a=some q->q.spot=none∧base<=q.block)∧r.2.2.2.length<=cap
theorem qH (x:Int):0<=dG x∧dG x<17592186044416:=⟨Int.emod_nonneg _ (by omega),Int.emod_lt_of_pos _ (by omega)⟩
theorem lM (p l:Int):bC p l=0∨bC p l=1∨bC p l=2:=by
 unfold bC;split
 ·exact .inl rfl
 ·split
  ·split
   ·exact .inl rfl
   ·exact .inr (.inl rfl)
  ·split
   ·exact .inl rfl
   ·exact .inr (.inr rfl)
theorem iT (p:Int):bC p 0≠1:=by
 unfold bC;split
 ·simp
 ·split
  ·simp
  ·split <;> simp
theorem ae {B:Nat} {w w':World} {g:Nat} {o:Obj} (h:w.heap[g]?=some o) (hb:Below B w w') (hg:g<B):w'.heap[g]?=some o:=by rw [hb.block g hg,h]
theorem rx (a:Option Addr) (len cap:Nat) (zs:List Int) (va lv n ix rv:Int) (w:World) (hl:len<=1048576) (hc:len<=cap) (hm:cap<=9223372036854775807) (hv0:0<=va) (hv1:va<=18446744073709551615)
 (h0:0<=lv) (h2:lv<=2) (hn0:0<=n) (hn1:n<17592186044416) (hB:Byt w a len zs) (hix:Hid (dN va lv=ix)) (hib:0<=ix∧ix<=7) (hrv:Hid (rdV zs (64*n+8*ix) 8=rv)) (hrb:0<=rv∧rv<=18446744073709551615)
 (hg:Hid (dP len (64*n+8*ix) 8=false)):
 Calls Tryz.prog 117 #[.slice a len cap,.int .u64 n,.int .i64 lv,.int .u64 va] w fun e w'=>kO w.heap.size w' e (3,lv,0,[])∧Bw w w':=by
 have hz:=hB.1;obtain ⟨v1,Ev1,n1,H8,l1⟩:=al1 w #[Value.int .i64 0,Value.int .i64 0,Value.int .u64 0,Value.slice none 0 0] 213;go_enter Tryz.func117,Tryz.ntmps117;go_wp2_with fail;rw [Ev1.out];clear Ev1;refine (jW va lv v1 hv0 hv1 h0 h2).mono ?_;rintro e w' ⟨rfl,nq,rfl⟩;rw [hix.out];have n2:=below_drewN n1 nq;have H9:Hid ((v1.drewN nq).heap[w.heap.size]?=some (.cells #[Value.int .i64 0,Value.int .i64 0,Value.int .u64 0,Value.slice none 0 0] 213 (0,0))):=H8;have l2:w.heap.size<(v1.drewN nq).heap.size:=l1;generalize v1.drewN nq=v2 at n2 H9 l2 |-;clear H8 l1 n1;go_wp2_with fail;refine (gD a len cap zs (64*n+8*ix) 8 v2 (hB.keep n2) hl hc hm (by omega) (by omega) (by omega)).mono ?_;rintro e v3 ⟨rfl,n3⟩;rw [hrv.out,hg.out];have n13:=bst n2 n3;have H10:Hid (v3.heap[w.heap.size]?=some (.cells #[Value.int .i64 0,Value.int .i64 0,Value.int .u64 0,Value.slice none 0 0] 213 (0,0))):=ae H9.out n3 l2;have l3:w.heap.size<v3.heap.size:=Nat.lt_of_lt_of_le l2 n3.size;clear H9 n2 n3 l2;obtain ⟨⟨d0,d1,d2,d3⟩,e0,e1,e2,e3⟩:=az H10.out;go_wp2_with fail;refine bodyPost_ret (v:=.agg #[.int .i64 3,.int .i64 lv,.int .u64 0,.slice none 0 0]) (by simp [results,Tryz.results117,go_sem,d0,d1,d2,d3,l3]) rfl ⟨⟨none,0,rfl,RowC.nil _ _ _,fun _=>⟨rfl,rfl⟩,(by intro q hq;cases hq),Nat.zero_le _⟩,?_⟩;exact (oZ n13 nle _ _ _ _).alloc (by simpa [World.setCell] using n13.size) _
theorem ry (a:Option Addr) (len cap:Nat) (zs:List Int) (va lv n ix rv:Int) (w:World) (hl:len<=1048576) (hc:len<=cap) (hm:cap<=9223372036854775807) (hv0:0<=va) (hv1:va<=18446744073709551615)
 (h0:0<=lv) (h2:lv<=2) (hn0:0<=n) (hn1:n<17592186044416) (hB:Byt w a len zs) (hix:Hid (dN va lv=ix)) (hib:0<=ix∧ix<=7) (hrv:Hid (rdV zs (64*n+8*ix) 8=rv)) (hrb:0<=rv∧rv<=18446744073709551615)
 (hg:Hid (dP len (64*n+8*ix) 8=true)) (hk:Hid (bC rv lv=0)):
 Calls Tryz.prog 117 #[.slice a len cap,.int .u64 n,.int .i64 lv,.int .u64 va] w fun e w'=>kO w.heap.size w' e (2,lv,0,[])∧Bw w w':=by
 have hz:=hB.1;obtain ⟨v1,Ev1,n1,H8,l1⟩:=al1 w #[Value.int .i64 0,Value.int .i64 0,Value.int .u64 0,Value.slice none 0 0] 213;go_enter Tryz.func117,Tryz.ntmps117;go_wp2_with fail;rw [Ev1.out];clear Ev1;refine (jW va lv v1 hv0 hv1 h0 h2).mono ?_;rintro e w' ⟨rfl,nq,rfl⟩;rw [hix.out];have n2:=below_drewN n1 nq;have H9:Hid ((v1.drewN nq).heap[w.heap.size]?=some (.cells #[Value.int .i64 0,Value.int .i64 0,Value.int .u64 0,Value.slice none 0 0] 213 (0,0))):=H8;have l2:w.heap.size<(v1.drewN nq).heap.size:=l1;generalize v1.drewN nq=v2 at n2 H9 l2 |-;clear H8 l1 n1;go_wp2_with fail;refine (gD a len cap zs (64*n+8*ix) 8 v2 (hB.keep n2) hl hc hm (by omega) (by omega) (by omega)).mono ?_;rintro e v3 ⟨rfl,n3⟩;rw [hrv.out,hg.out];have n13:=bst n2 n3;have H10:Hid (v3.heap[w.heap.size]?=some (.cells #[Value.int .i64 0,Value.int .i64 0,Value.int .u64 0,Value.slice none 0 0] 213 (0,0))):=ae H9.out n3 l2;have l3:w.heap.size<v3.heap.size:=Nat.lt_of_lt_of_le l2 n3.size;clear H9 n2 n3 l2;go_wp2_with fail;have a4:=fF v3 #[Value.bool true,Value.int IntKind.u64 rv] 132;generalize v3.alloc (Obj.cells #[Value.bool true,Value.int IntKind.u64 rv] 132)=v4 at a4 |-;obtain ⟨l4,c4,n4⟩:=a4;have c41:v4.cell? ⟨v3.heap.size,1,none⟩=some (.int .u64 rv):=c4 1;have n14:=bst n13 n4;have H11:Hid (v4.heap[w.heap.size]?=some (.cells #[Value.int .i64 0,Value.int .i64 0,Value.int .u64 0,Value.slice none 0 0] 213 (0,0))):=ae H10.out n4 l3;clear c4 n13 n4 H10;refine (fI rv lv v4 hrb.1 hrb.2 (by omega) (by omega)).mono ?_;rintro e w' ⟨rfl,nk,rfl⟩;rw [hk.out];have n15:Bw w (v4.drewN nk):=below_drewN n14 nk;have c51:(v4.drewN nk).cell? ⟨v3.heap.size,1,none⟩=some (.int .u64 rv):=c41;have H12:Hid ((v4.drewN nk).heap[w.heap.size]?=some (.cells #[Value.int .i64 0,Value.int .i64 0,Value.int .u64 0,Value.slice none 0 0] 213 (0,0))):=H11;have l5:v3.heap.size<(v4.drewN nk).heap.size:=l4;generalize v4.drewN nk=v5 at n15 c51 H12 l5 |-;clear n14 c41 H11 l4;obtain ⟨⟨d0,d1,d2,d3⟩,e0,e1,e2,e3⟩:=az H12.out;go_wp2_with fail;refine bodyPost_ret (v:=.agg #[.int .i64 2,.int .i64 lv,.int .u64 0,.slice none 0 0]) (by simp [results,Tryz.results117,go_sem,d0,d1,d2,d3]) rfl ⟨⟨none,0,rfl,RowC.nil _ _ _,fun _=>⟨rfl,rfl⟩,(by intro q hq;cases hq),Nat.zero_le _⟩,?_⟩;exact oZ n15 nle _ _ _ _
theorem pT (a:Option Addr) (len cap:Nat) (zs:List Int) (va lv n ix rv:Int) (w:World) (hl:len<=1048576) (hc:len<=cap) (hm:cap<=9223372036854775807) (hv0:0<=va) (hv1:va<=18446744073709551615)
 (h0:0<=lv) (h2:lv<=2) (hn0:0<=n) (hn1:n<17592186044416) (hB:Byt w a len zs) (hix:Hid (dN va lv=ix)) (hib:0<=ix∧ix<=7) (hrv:Hid (rdV zs (64*n+8*ix) 8=rv)) (hrb:0<=rv∧rv<=18446744073709551615)
 (hg:Hid (dP len (64*n+8*ix) 8=true)) (hk:Hid (bC rv lv=2)):
 Calls Tryz.prog 117 #[.slice a len cap,.int .u64 n,.int .i64 lv,.int .u64 va] w fun e w'=>kO w.heap.size w' e (1,lv,rv,[(lv,64*n+8*ix,rv)])∧Bw w w':=by
 have hz:=hB.1;obtain ⟨v1,Ev1,n1,H8,l1⟩:=al1 w #[Value.int .i64 0,Value.int .i64 0,Value.int .u64 0,Value.slice none 0 0] 213;go_enter Tryz.func117,Tryz.ntmps117;go_wp2_with fail;rw [Ev1.out];clear Ev1;refine (jW va lv v1 hv0 hv1 h0 h2).mono ?_;rintro e w' ⟨rfl,nq,rfl⟩;rw [hix.out];have n2:=below_drewN n1 nq;have H9:Hid ((v1.drewN nq).heap[w.heap.size]?=some (.cells #[Value.int .i64 0,Value.int .i64 0,Value.int .u64 0,Value.slice none 0 0] 213 (0,0))):=H8;have l2:w.heap.size<(v1.drewN nq).heap.size:=l1;generalize v1.drewN nq=v2 at n2 H9 l2 |-;clear H8 l1 n1;go_wp2_with fail;refine (gD a len cap zs (64*n+8*ix) 8 v2 (hB.keep n2) hl hc hm (by omega) (by omega) (by omega)).mono ?_;rintro e v3 ⟨rfl,n3⟩;rw [hrv.out,hg.out];have n13:=bst n2 n3;have H10:Hid (v3.heap[w.heap.size]?=some (.cells #[Value.int .i64 0,Value.int .i64 0,Value.int .u64 0,Value.slice none 0 0] 213 (0,0))):=ae H9.out n3 l2;have l3:w.heap.size<v3.heap.size:=Nat.lt_of_lt_of_le l2 n3.size;clear H9 n2 n3 l2;go_wp2_with fail;have a4:=fF v3 #[Value.bool true,Value.int IntKind.u64 rv] 132;generalize v3.alloc (Obj.cells #[Value.bool true,Value.int IntKind.u64 rv] 132)=v4 at a4 |-;obtain ⟨l4,c4,n4⟩:=a4;have c41:v4.cell? ⟨v3.heap.size,1,none⟩=some (.int .u64 rv):=c4 1;have n14:=bst n13 n4;have H11:Hid (v4.heap[w.heap.size]?=some (.cells #[Value.int .i64 0,Value.int .i64 0,Value.int .u64 0,Value.slice none 0 0] 213 (0,0))):=ae H10.out n4 l3;clear c4 n13 n4 H10;refine (fI rv lv v4 hrb.1 hrb.2 (by omega) (by omega)).mono ?_;rintro e w' ⟨rfl,nk,rfl⟩;rw [hk.out];have n15:Bw w (v4.drewN nk):=below_drewN n14 nk;have c51:(v4.drewN nk).cell? ⟨v3.heap.size,1,none⟩=some (.int .u64 rv):=c41;have H12:Hid ((v4.drewN nk).heap[w.heap.size]?=some (.cells #[Value.int .i64 0,Value.int .i64 0,Value.int .u64 0,Value.slice none 0 0] 213 (0,0))):=H11;have l5:v3.heap.size<(v4.drewN nk).heap.size:=l4;generalize v4.drewN nk=v5 at n15 c51 H12 l5 |-;clear n14 c41 H11 l4;obtain ⟨⟨d0,d1,d2,d3⟩,e0,e1,e2,e3⟩:=az H12.out;have l6:w.heap.size<v5.heap.size:=Nat.lt_trans l3 l5;have ne1:v5.heap.size≠v3.heap.size:=by omega
 have ne2:w.heap.size≠v3.heap.size:=by omega
 have ne3:v3.heap.size≠w.heap.size:=by omega
 go_wp2_with fail;go_region_held3 (fun w'=>w'.cell? ⟨v3.heap.size,1,none⟩=some (.int .u64 rv)) (go_keep)
  (first | (go_at_call 140;refine (tC _ _ _ _).mono ?_;rintro e w' ⟨rfl,rfl⟩))
 go_wp2_with fail;refine bodyPost_ret (v:=.agg #[.int .i64 1,.int .i64 lv,.int .u64 rv,.slice (some ⟨v5.heap.size,0,none⟩) 1 1]) (by simp [results,Tryz.results117,go_sem,d0,d1,d2,d3,l6]) rfl
  ⟨⟨some ⟨v5.heap.size,0,none⟩,1,rfl,Ch _ _ (by simp [World.setCell]) _ 1 3 (cP [(lv,64*n+8*ix,rv)]) (tB _) (by decide),(by intro h;cases h),(by intro q hq;cases hq;exact ⟨rfl,Nat.le_of_lt l6⟩),nle⟩,?_⟩
 exact ((oZ n15 nle _ _ _ _).alloc (by simpa [World.setCell] using n15.size) _).drew
theorem wL (a:Option Addr) (len cap:Nat) (zs:List Int) (va lv n ix rv:Int) (w:World) (hl:len<=1048576) (hc:len<=cap) (hm:cap<=9223372036854775807) (hv0:0<=va) (hv1:va<=18446744073709551615)
 (h0:0<=lv) (h2:lv<=2) (hn0:0<=n) (hn1:n<17592186044416) (hB:Byt w a len zs) (hix:Hid (dN va lv=ix)) (hib:0<=ix∧ix<=7) (hrv:Hid (rdV zs (64*n+8*ix) 8=rv)) (hrb:0<=rv∧rv<=18446744073709551615)
 (hg:Hid (dP len (64*n+8*ix) 8=true)) (hk:Hid (bC rv lv=1)) (NX:Int × Int × Int × List dQ) (hlen:NX.2.2.2.length<=2) (h1:1<=lv)
 (hnx:Hid (∀w':World,Byt w' a len zs->
   Calls Tryz.prog 117 #[.slice a len cap,.int .u64 (dG rv),.int .i64 (lv-1),.int .u64 va] w' fun e w''=>kO w'.heap.size w'' e NX∧Bw w' w'')):
 Calls Tryz.prog 117 #[.slice a len cap,.int .u64 n,.int .i64 lv,.int .u64 va] w fun e w'=>
  kO w.heap.size w' e (NX.1,NX.2.1,NX.2.2.1,(lv,64*n+8*ix,rv)::NX.2.2.2)∧Bw w w':=by
 have hz:=hB.1;obtain ⟨v1,Ev1,n1,H8,l1⟩:=al1 w #[Value.int .i64 0,Value.int .i64 0,Value.int .u64 0,Value.slice none 0 0] 213;go_enter Tryz.func117,Tryz.ntmps117;go_wp2_with fail;rw [Ev1.out];clear Ev1;refine (jW va lv v1 hv0 hv1 h0 h2).mono ?_;rintro e w' ⟨rfl,nq,rfl⟩;rw [hix.out];have n2:=below_drewN n1 nq;have H9:Hid ((v1.drewN nq).heap[w.heap.size]?=some (.cells #[Value.int .i64 0,Value.int .i64 0,Value.int .u64 0,Value.slice none 0 0] 213 (0,0))):=H8;have l2:w.heap.size<(v1.drewN nq).heap.size:=l1;generalize v1.drewN nq=v2 at n2 H9 l2 |-;clear H8 l1 n1;go_wp2_with fail;refine (gD a len cap zs (64*n+8*ix) 8 v2 (hB.keep n2) hl hc hm (by omega) (by omega) (by omega)).mono ?_;rintro e v3 ⟨rfl,n3⟩;rw [hrv.out,hg.out];have n13:=bst n2 n3;have H10:Hid (v3.heap[w.heap.size]?=some (.cells #[Value.int .i64 0,Value.int .i64 0,Value.int .u64 0,Value.slice none 0 0] 213 (0,0))):=ae H9.out n3 l2;have l3:w.heap.size<v3.heap.size:=Nat.lt_of_lt_of_le l2 n3.size;clear H9 n2 n3 l2;go_wp2_with fail;have a4:=fF v3 #[Value.bool true,Value.int IntKind.u64 rv] 132;generalize v3.alloc (Obj.cells #[Value.bool true,Value.int IntKind.u64 rv] 132)=v4 at a4 |-;obtain ⟨l4,c4,n4⟩:=a4;have c41:v4.cell? ⟨v3.heap.size,1,none⟩=some (.int .u64 rv):=c4 1;have n14:=bst n13 n4;have H11:Hid (v4.heap[w.heap.size]?=some (.cells #[Value.int .i64 0,Value.int .i64 0,Value.int .u64 0,Value.slice none 0 0] 213 (0,0))):=ae H10.out n4 l3;clear c4 n13 n4 H10;refine (fI rv lv v4 hrb.1 hrb.2 (by omega) (by omega)).mono ?_;rintro e w' ⟨rfl,nk,rfl⟩;rw [hk.out];have n15:Bw w (v4.drewN nk):=below_drewN n14 nk;have c51:(v4.drewN nk).cell? ⟨v3.heap.size,1,none⟩=some (.int .u64 rv):=c41;have H12:Hid ((v4.drewN nk).heap[w.heap.size]?=some (.cells #[Value.int .i64 0,Value.int .i64 0,Value.int .u64 0,Value.slice none 0 0] 213 (0,0))):=H11;have l5:v3.heap.size<(v4.drewN nk).heap.size:=l4;generalize v4.drewN nk=v5 at n15 c51 H12 l5 |-;clear n14 c41 H11 l4;go_wp2_with fail;refine (dx rv v5 hrb.1 hrb.2).mono ?_;rintro e w' ⟨rfl,np,rfl⟩;have n16:Bw w (v5.drewN np):=below_drewN n15 np;have c61:(v5.drewN np).cell? ⟨v3.heap.size,1,none⟩=some (.int .u64 rv):=c51;have H13:Hid ((v5.drewN np).heap[w.heap.size]?=some (.cells #[Value.int .i64 0,Value.int .i64 0,Value.int .u64 0,Value.slice none 0 0] 213 (0,0))):=H12;have l6:v3.heap.size<(v5.drewN np).heap.size:=l5;generalize v5.drewN np=v6 at n16 c61 H13 l6 |-;clear n15 c51 H12 l5;go_wp2_with fail;refine (hnx.out v6 (hB.keep n16)).mono ?_;rintro e v7 ⟨⟨a7,c7,rfl,r7,na7,sp7,nc7⟩,n7⟩;obtain ⟨x1,x2,x3,rs⟩:=NX;simp only at r7 na7 nc7 hlen |-;have n17:=bst n16 n7;have c71:=Below.cell2 n7 c61 l6;have H14:Hid (v7.heap[w.heap.size]?=some (.cells #[Value.int .i64 0,Value.int .i64 0,Value.int .u64 0,Value.slice none 0 0] 213 (0,0))):=ae H13.out n7 (by omega);have l7:v3.heap.size<v7.heap.size:=Nat.lt_of_lt_of_le l6 n7.size;clear n16 n7 c61 H13 l6;have l8:w.heap.size<v7.heap.size:=Nat.lt_trans l3 l7;go_wp2_with fail;obtain ⟨v8,Ev8,n8,H15,l9⟩:=al1 v7 #[Value.int .i64 x1,Value.int .i64 x2,Value.int .u64 x3,Value.slice a7 rs.length c7] 213;rw [Ev8.out];clear Ev8;have n18:=bst n17 n8;have c81:=Below.cell2 n8 c71 l7;have H16:Hid (v8.heap[w.heap.size]?=some (.cells #[Value.int .i64 0,Value.int .i64 0,Value.int .u64 0,Value.slice none 0 0] 213 (0,0))):=ae H14.out n8 l8;have HR:Hid (RowC v8 a7 rs.length 3 (cP rs)):=r7.keep n8;have HN:Hid (a7=none->rs.length=0∧c7=0):=na7;have HSp:Hid (∀q,a7=some q->q.spot=none∧v6.heap.size<=q.block):=sp7;clear r7 na7 sp7 n17 n8 c71 H14;have q3:=(az H15.out).1.2.2.2;have p3:=(az H15.out).2.2.2.2;have ne1:v8.heap.size≠v3.heap.size:=by omega
 have ne2:v8.heap.size≠v7.heap.size:=by omega
 have ne4:v7.heap.size≠v8.heap.size:=by omega
 go_region_law (first
  | (refine mr _ (by rfl) (.tmp 59) (.tmp 61) 211 (by rfl) 223 Tryz.underlying211 (.agg #[.int .i64 0,.int .u64 0,.int .u64 0]) 3 24 Tryz.infoRec (by rfl) (by decide) v8.heap.size v8.heap.size 1 1 (cP [(lv,64*n+8*ix,rv)]) (by rfl) (OwnC.new 223 3 v8.drew (cP [(lv,64*n+8*ix,rv)]) 1 (by rfl) (by decide)) a7 rs.length c7 (cP rs) (by rfl) HN.out (fun q hq=>(HSp.out q hq).1) (RowC.keep (w:=v8) HR.out ((Below.refl _ _).drew.alloc nle _)) (lL rs) (by omega) (by omega) v8.heap.size v8 ((Below.refl _ _).drew.alloc nle _) nle ?_;intro g9 c9 v9 o9 n9;have q9:=Below.cell2 n9 q3 l9;have p9:=Below.froz2 n9 p3 l9)
  | (go_simp;go_at_call 140;refine (tC _ _ _ _).mono ?_;rintro e w' ⟨rfl,rfl⟩))
 all_goals
  have k9:=ae H15.out n9 l9;have k9':=DT (u:=.slice (some ⟨g9,0,none⟩) (1+rs.length) c9) k9;have m9:=ak (aq v9 (some v7.heap.size)) 3 (.slice (some ⟨g9,0,none⟩) (1+rs.length) c9);have f9:=o9.facts;have n19:Bw w v9:=bst n18 n9;have n110:=Below.gb n19 m9 (by omega) (Nat.lt_of_lt_of_le l9 n9.size);have b9:=aC (ae H16.out n9 (by omega)) m9 (by omega);have r9:=o9.row.gb m9 (by omega);generalize v9.setCell ⟨v7.heap.size,3,none⟩ (.slice (some ⟨g9,0,none⟩) (1+rs.length) c9)=v10 at k9' m9 n110 b9 r9 |-;obtain ⟨⟨d0,d1,d2,d3⟩,e0,e1,e2,e3⟩:=az b9;obtain ⟨⟨t0,t1,t2,t3⟩,_⟩:=az k9';have HR9:Hid (RowC v10 (some ⟨g9,0,none⟩) (1+rs.length) 3 (cP [(lv,64*n+8*ix,rv)]++cP rs)):=r9;clear k9 k9' m9 q9 p9 o9 n9 n19 b9 r9 q3 p3 c81;go_wp2_with fail;refine bodyPost_ret (v:=.agg #[.int .i64 x1,.int .i64 x2,.int .u64 x3,.slice (some ⟨g9,0,none⟩) (1+rs.length) c9]) (by simp [results,Tryz.results117,go_sem,d0,d1,d2,d3]) rfl ?_;have e10:1+rs.length=rs.length+1:=Nat.add_comm _ _;rw [e10] at HR9 f9 |-;exact ⟨⟨some ⟨g9,0,none⟩,c9,rfl,RowC.gb HR9.out (gb4 v10 w.heap.size _ _ _ _) (by omega),(by intro h;cases h),(by intro q hq;cases hq;exact ⟨rfl,by show w.heap.size<=g9;omega⟩),f9.2.2.2.1⟩,oZ n110 nle _ _ _ _⟩
theorem lV (zs:List Int) (va:Int):∀(l:Nat) (n:Int),(cQ zs va l n).2.2.2.length<=l+1
 | 0,n=>by
  unfold cQ;split
  ·simp
  ·split
   ·simp
   ·split <;> simp
 | l+1,n=>by
  unfold cQ;split
  ·simp
  ·split
   ·simp
   ·split
    ·simp
    ·have:=lV zs va l (dG (rdV zs (64*n+8*dN va ((l+1:Nat):Int)) 8));simp only [List.length_cons];omega
theorem rY (a:Option Addr) (len cap:Nat) (zs:List Int) (va:Int) (hl:len<=1048576) (hc:len<=cap) (hm:cap<=9223372036854775807) (hv0:0<=va) (hv1:va<=18446744073709551615) (l:Nat):
 ∀(n lv:Int) (w:World),lv=l->l<=2->0<=n->n<17592186044416->Byt w a len zs->
 Calls Tryz.prog 117 #[.slice a len cap,.int .u64 n,.int .i64 lv,.int .u64 va] w fun e w'=>kO w.heap.size w' e (cQ zs va l n)∧Bw w w':=by
 induction l with
 | zero=>
  intro n lv w e hl2 hn0 hn1 hB;subst e;have hz:=hB.1;have hib:=qG va ((0:Nat):Int);have hrb:=mH zs (64*n+8*dN va ((0:Nat):Int)) 8 (by omega) hB.2.1;unfold cQ;rw [hz];cases hg:dP len (64*n+8*dN va ((0:Nat):Int)) 8
  ·rw [if_pos rfl];exact rx a len cap zs va _ n _ _ w hl hc hm hv0 hv1 (by omega) (by omega) hn0 hn1 hB rfl hib rfl hrb hg
  ·rw [if_neg (by simp)];rcases lM (rdV zs (64*n+8*dN va ((0:Nat):Int)) 8) ((0:Nat):Int) with hk | hk | hk
   ·rw [if_pos hk];exact ry a len cap zs va _ n _ _ w hl hc hm hv0 hv1 (by omega) (by omega) hn0 hn1 hB rfl hib rfl hrb hg hk
   ·exact absurd hk (iT _)
   ·rw [if_neg (by rw [hk];decide),if_pos hk];exact pT a len cap zs va _ n _ _ w hl hc hm hv0 hv1 (by omega) (by omega) hn0 hn1 hB rfl hib rfl hrb hg hk
 | succ l ih=>
  intro n lv w e hl2 hn0 hn1 hB;subst e;have hz:=hB.1;have hib:=qG va ((l+1:Nat):Int);have hrb:=mH zs (64*n+8*dN va ((l+1:Nat):Int)) 8 (by omega) hB.2.1;unfold cQ;rw [hz];cases hg:dP len (64*n+8*dN va ((l+1:Nat):Int)) 8
  ·rw [if_pos rfl];exact rx a len cap zs va _ n _ _ w hl hc hm hv0 hv1 (by omega) (by omega) hn0 hn1 hB rfl hib rfl hrb hg
  ·rw [if_neg (by simp)];rcases lM (rdV zs (64*n+8*dN va ((l+1:Nat):Int)) 8) ((l+1:Nat):Int) with hk | hk | hk
   ·rw [if_pos hk];exact ry a len cap zs va _ n _ _ w hl hc hm hv0 hv1 (by omega) (by omega) hn0 hn1 hB rfl hib rfl hrb hg hk
   ·rw [if_neg (by rw [hk];decide),if_neg (by rw [hk];decide)];have hp:=qH (rdV zs (64*n+8*dN va ((l+1:Nat):Int)) 8);exact wL a len cap zs va _ n _ _ w hl hc hm hv0 hv1 (by omega) (by omega) hn0 hn1 hB rfl hib rfl hrb hg hk
     (cQ zs va l (dG (rdV zs (64*n+8*dN va ((l+1:Nat):Int)) 8))) (by have:=lV zs va l (dG (rdV zs (64*n+8*dN va ((l+1:Nat):Int)) 8));omega) (by omega)
     (fun w' hB'=>ih _ _ w' (by omega) (by omega) hp.1 hp.2 hB')
   ·rw [if_neg (by rw [hk];decide),if_pos hk];exact pT a len cap zs va _ n _ _ w hl hc hm hv0 hv1 (by omega) (by omega) hn0 hn1 hB rfl hib rfl hrb hg hk
theorem ox (a:Option Addr) (len cap:Nat) (zs:List Int) (root va:Int) (w:World) (hl:len<=1048576) (hc:len<=cap) (hm:cap<=9223372036854775807) (hr0:0<=root) (hr1:root<=18446744073709551615) (hv0:0<=va) (hv1:va<=18446744073709551615) (hB:Byt w a len zs):
 Calls Tryz.prog 110 #[.slice a len cap,.int .u64 root,.int .u64 va] w fun e w'=>kO w.heap.size w' e (dv zs root va)∧Bw w w':=by
 have H8:Hid ((w.alloc (Obj.cells #[Value.int .i64 0,Value.int .i64 0,Value.int .u64 0,Value.slice none 0 0] 213)).heap[w.heap.size]?=some (.cells #[Value.int .i64 0,Value.int .i64 0,Value.int .u64 0,Value.slice none 0 0] 213 (0,0))):=heap_alloc_new _ _;have n1:=(Below.refl w.heap.size w).alloc nle (Obj.cells #[Value.int .i64 0,Value.int .i64 0,Value.int .u64 0,Value.slice none 0 0] 213);have l1:w.heap.size<(w.alloc (Obj.cells #[Value.int .i64 0,Value.int .i64 0,Value.int .u64 0,Value.slice none 0 0] 213)).heap.size:=by simp
 unfold dv;cases hcn:du va
 ·rw [if_pos rfl];have HC:Hid (du va=false):=hcn;clear hcn;go_enter Tryz.func110,Tryz.ntmps110;go_wp2_with fail;generalize w.alloc (Obj.cells #[Value.int .i64 0,Value.int .i64 0,Value.int .u64 0,Value.slice none 0 0] 213)=v1 at H8 n1 l1 |-;refine (er va v1 hv0 hv1).mono ?_;rintro e w' ⟨rfl,nq,rfl⟩;rw [HC.out];have n2:Bw w (v1.drewN nq):=below_drewN n1 nq;have H9:Hid ((v1.drewN nq).heap[w.heap.size]?=some (.cells #[Value.int .i64 0,Value.int .i64 0,Value.int .u64 0,Value.slice none 0 0] 213 (0,0))):=H8;generalize v1.drewN nq=v2 at n2 H9 |-;obtain ⟨⟨d0,d1,d2,d3⟩,e0,e1,e2,e3⟩:=az H9.out;go_wp2_with fail;refine bodyPost_ret (v:=.agg #[.int .i64 2,.int .i64 2,.int .u64 0,.slice none 0 0]) (by simp [results,Tryz.results110,go_sem,d0,d1,d2,d3]) rfl ⟨⟨none,0,rfl,RowC.nil _ _ _,fun _=>⟨rfl,rfl⟩,(by intro q hq;cases hq),Nat.zero_le _⟩,oZ n2 nle _ _ _ _⟩
 ·rw [if_neg (by simp)];have HC:Hid (du va=true):=hcn;clear hcn;obtain ⟨X,hX⟩:∃X,cQ zs va 2 (root%17592186044416)=X:=⟨_,rfl⟩;have HX:Hid (cQ zs va 2 (root%17592186044416)=X):=hX;rw [hX];clear hX;obtain ⟨x1,x2,x3,rs⟩:=X;go_enter Tryz.func110,Tryz.ntmps110;go_wp2_with fail;generalize w.alloc (Obj.cells #[Value.int .i64 0,Value.int .i64 0,Value.int .u64 0,Value.slice none 0 0] 213)=v1 at H8 n1 l1 |-;refine (er va v1 hv0 hv1).mono ?_;rintro e w' ⟨rfl,nq,rfl⟩;rw [HC.out];have n2:Bw w (v1.drewN nq):=below_drewN n1 nq;have H9:Hid ((v1.drewN nq).heap[w.heap.size]?=some (.cells #[Value.int .i64 0,Value.int .i64 0,Value.int .u64 0,Value.slice none 0 0] 213 (0,0))):=H8;have l2:w.heap.size<(v1.drewN nq).heap.size:=l1;generalize v1.drewN nq=v2 at n2 H9 l2 |-;clear n1 H8 l1;go_wp2_with fail;refine (bK root 0 43 1 17592186044416 v2 hr0 hr1 (by omega) (by omega) (by omega) (by omega) rfl rfl).mono ?_;rintro e w' ⟨rfl,nr,rfl⟩;have n3:Bw w (v2.drewN nr):=below_drewN n2 nr;have H10:Hid ((v2.drewN nr).heap[w.heap.size]?=some (.cells #[Value.int .i64 0,Value.int .i64 0,Value.int .u64 0,Value.slice none 0 0] 213 (0,0))):=H9;have l3:w.heap.size<(v2.drewN nr).heap.size:=l2;generalize v2.drewN nr=v3 at n3 H10 l3 |-;clear n2 H9 l2;rw [Int.ediv_one];have hb0:0<=root%17592186044416∧root%17592186044416<17592186044416:=⟨Int.emod_nonneg _ (by omega),Int.emod_lt_of_pos _ (by omega)⟩;go_wp2_with fail;refine (rY a len cap zs va hl hc hm hv0 hv1 2 _ 2 v3 rfl (by omega) hb0.1 hb0.2 (hB.keep n3)).mono ?_;rintro e v4 ⟨hw,n4⟩;rw [HX.out] at hw;obtain ⟨a4,c4,rfl,r4,na4,sp4,nc4⟩:=hw;simp only at r4 na4 nc4 |-;have n14:=bst n3 n4;have H11:Hid _:=ae H10.out n4 l3;have l4:w.heap.size<v4.heap.size:=Nat.lt_of_lt_of_le l3 n4.size;obtain ⟨⟨d0,d1,d2,d3⟩,e0,e1,e2,e3⟩:=az (ae H10.out n4 l3);have HR4:Hid (RowC v4 a4 rs.length 3 (cP rs)):=r4;have HN4:Hid (a4=none->rs.length=0∧c4=0):=na4;have HS4:Hid (∀q,a4=some q->q.spot=none∧v3.heap.size<=q.block):=sp4;clear r4 na4 sp4 H10 H11 n3 n4;go_wp2_with fail;refine bodyPost_ret (v:=.agg #[.int .i64 x1,.int .i64 x2,.int .u64 x3,.slice a4 rs.length c4]) (by simp [results,Tryz.results110,go_sem,d0,d1,d2,d3]) rfl ⟨⟨a4,c4,rfl,RowC.gb' HR4.out (gb4 v4 w.heap.size _ _ _ _) (fun q hq=>by have:=(HS4.out q hq).2;omega),HN4.out,(fun q hq=>⟨(HS4.out q hq).1,by have:=(HS4.out q hq).2;omega⟩),nc4⟩,oZ n14 nle _ _ _ _⟩
end Go.Proofs.YtpdddbobhndbjaaGreat
