import Derived.Laws.BytesArg
import Derived.Test.YtkenjknmfhoppaaGreatPk45
import Derived.Test.YtkenjknmfhoppaaGreatPk44
import Derived.Test.YtkenjknmfhoppaaGreatPk23
namespace Go.Proofs.YtkenjknmfhoppaaGreat
open Go.RowKit
set_option linter.unusedVariables false
set_option maxHeartbeats 6400000
set_option maxRecDepth 20000
section
attribute [local go_sem ↓] Go.wp_at_zero Go.wp_at_succ
theorem yI (a b:Option Addr) (len ca cb:Nat) (zs:List Int) (w:World) (h:RowC w a len 1 (zs.map (Value.int .u64))) (h':RowC w b len 1 (zs.map (Value.int .u64))) (hl:len<=1048576):
 Calls Tryz.prog 30 #[.slice a len ca,.slice b len cb] w fun e w'=>e=.returned (.bool true)∧∃n,w'=w.drewN n:=by
 obtain ⟨h1,h3⟩:=h;obtain ⟨_,k3⟩:=h';have hz:zs.length=len:=by simpa using h1
 have HAt:Hid (∀k,k<len->(zs.map (Value.int .u64))[k]?=some (VU (zs[k]?.getD 0))):=fun k hk=>by
  have:k<zs.length:=by omega
  simp [this]
 clear h1;go_enter Tryz.func30,Tryz.ntmps30;go_wp2;go_loopw [5] (fun i wr=>∃(k:Nat),k<=len∧i=VI k∧∃n,wr=w.drewN n) (fun i _=>len-(intOf i).toNat)
 case atStart=>exact ⟨0,Nat.zero_le _,rfl,0,rfl⟩
 case round=>
  obtain ⟨k,hk,rfl,n,rfl⟩:=hrel;by_cases hlt:k<len
  ·rcases h3 with h3 | ⟨b1,o1,rfl,hb1,hc1⟩
   ·omega
   rcases k3 with k3 | ⟨b2,o2,rfl,hb2,hc2⟩
   ·omega
   have g1:=hc1 k _ (HAt.out k hlt);have g2:=hc2 k _ (HAt.out k hlt);generalize zs[k]?.getD 0=z at g1 g2;clear hc1 hc2;go_wp2;go_quiet (fail);go_wp2;go_roundw
   case rel=>exact ⟨k+1,by omega,by go_num,n+nq,rfl⟩
   case measure=>simp [intOf];omega
  ·go_wp2;go_ret;exact ⟨rfl,n,rfl⟩
theorem ur (a b:Option Addr) (n ca cb:Nat) (es:List EvM) (w:World) (h:RowC w a n 4 (iY es)) (h':RowC w b n 4 (iY es)) (hn:es.length=n) (hl:n<=1048576):
 Calls Tryz.prog 28 #[.slice a n ca,.slice b n cb] w fun e w'=>e=.returned (.bool true)∧Below w.heap.size w w':=by
 have HR:Hid (RowC w a n 4 (iY es)):=h;have HR':Hid (RowC w b n 4 (iY es)):=h';clear h h';go_enter Tryz.func28,Tryz.ntmps28;go_wp2;go_loopw [5] (fun i wr=>∃(k:Nat),k<=n∧i=VI k∧Below w.heap.size w wr) (fun i _=>n-(intOf i).toNat)
 case atStart=>exact ⟨0,Nat.zero_le _,rfl,brf⟩
 case round=>
  obtain ⟨k,hk,rfl,hb⟩:=hrel;by_cases hlt:k<n
  ·obtain ⟨x,hx⟩:∃x:EvM,es[k]?=some x:=⟨_,geg (by omega)⟩;have R1:=RowC.keep HR.out hb;have R2:=RowC.keep HR'.out hb;obtain ⟨b1,o1,rfl,lb1⟩:∃b1 o1,a=some (AD b1 o1)∧b1<wr.heap.size:=by
    rcases R1.2 with h | ⟨b1,o1,h,h2,_⟩
    ·omega
    ·exact ⟨b1,o1,h,h2⟩
   obtain ⟨b2,o2,rfl,lb2⟩:∃b2 o2,b=some (AD b2 o2)∧b2<wr.heap.size:=by
    rcases R2.2 with h | ⟨b2,o2,h,h2,_⟩
    ·omega
    ·exact ⟨b2,o2,h,h2⟩
   obtain ⟨vp,vm,vc,vt⟩:=x;have C1:=fun j u hj hu=>aN (Cn R1 hn k _ hx j u hj hu) lb1;have C2:=fun j u hj hu=>aN (Cn R2 hn k _ hx j u hj hu) lb2;have g0:∀u:Lies wr,u.w.cell? ⟨b1,o1+k*4,none⟩=some (VU vp):=C1 0 _ (by omega) rfl;have g1:∀u:Lies wr,u.w.cell? ⟨b1,o1+k*4+1,none⟩=some (VI vm):=C1 1 _ (by omega) rfl;have g2:∀u:Lies wr,u.w.cell? ⟨b1,o1+k*4+2,none⟩=some (VI vc):=C1 2 _ (by omega) rfl;have g3:∀u:Lies wr,u.w.cell? ⟨b1,o1+k*4+3,none⟩=some (VU vt):=C1 3 _ (by omega) rfl;have f0:∀u:Lies wr,u.w.cell? ⟨b2,o2+k*4,none⟩=some (VU vp):=C2 0 _ (by omega) rfl;have f1:∀u:Lies wr,u.w.cell? ⟨b2,o2+k*4+1,none⟩=some (VI vm):=C2 1 _ (by omega) rfl;have f2:∀u:Lies wr,u.w.cell? ⟨b2,o2+k*4+2,none⟩=some (VI vc):=C2 2 _ (by omega) rfl;have f3:∀u:Lies wr,u.w.cell? ⟨b2,o2+k*4+3,none⟩=some (VU vt):=C2 3 _ (by omega) rfl;have ne:=eU wr;clear C1 C2 R1 R2 hx;go_wp2_with fail;refine da (by kernel_rfl) (by kernel_rfl) ?_;repeat (go_big_quiet_step (fail))
   refine wpQuiet_nil ?_;rintro _ ⟨u,rfl⟩;have hb2:=Below.step hb u.h (Nat.le_refl _);generalize u.w=v2 at hb2 |-;clear g0 g1 g2 g3 f0 f1 f2 f3 hb;go_wp2;go_roundw
   case rel=>exact ⟨k+1,by omega,by go_num,hb2⟩
   case measure=>simp [intOf];omega
  ·have hkl:k=n:=by omega
   subst hkl;go_wp2;go_ret;exact ⟨rfl,hb⟩
theorem te {w:World} {a:Option Addr} {len:Nat} {zs:List Int} (h:Byt w a len zs) (h0:0<len) (c:Nat):(convert 22 9 (.slice a len c)).run Tryz.prog w=.ok (.string (strOfNums zs)) w:=by
 rcases h.2.2 with h1 | ⟨b,off,rfl,_,hc⟩
 ·omega
 ·exact run_convert_bytes_arg (P:=Tryz.prog) w 22 5 Tryz.underlying22 Tryz.underlying5 b off len c zs h.1 (fun i hi=>by rw [hc i hi,List.getD_eq_getElem?_getD]) 9 Tryz.underlying9
theorem wE (a b:Option Addr) (len ca cb:Nat) (zs:List Int) (w:World) (h:Byt w a len zs) (h':Byt w b len zs) (h0:0<len):
 Calls Tryz.prog 29 #[.slice a len ca,.slice b len cb] w fun e w'=>e=.returned (.bool true)∧w'=w:=by
 have c1:=te h h0 ca;have c2:=te h' h0 cb;clear h h';generalize strOfNums zs=s at c1 c2;go_enter Tryz.func29,Tryz.ntmps29;go_wp2;go_ret;simp
theorem ut (ea eb:Option Addr) (ec ed:Nat) (p q:PtrM) (evs:List EvM) (h:HartM) (w:World) (hp:RsR w ea p evs h) (hq:RsR w eb q evs h) (hb:RsB evs h) (h0:0<h.mem.length):
 Calls Tryz.prog 11 #[.agg (dG ea evs.length ec p h),.agg (dG eb evs.length ed q h)] w fun e w'=>e=.returned (.bool true)∧Below w.heap.size w w':=by
 have E0:Hid (∀u,Below w.heap.size w u->Calls Tryz.prog 28 #[.slice ea evs.length ec,.slice eb evs.length ed] u fun e w'=>e=.returned (.bool true)∧Below u.heap.size u w'):=fun u hu=>ur _ _ _ _ _ evs u (hp.ev.keep hu) (hq.ev.keep hu) rfl hb.e;have E1:Hid (∀u,Below w.heap.size w u->Calls Tryz.prog 29 #[.slice p.am h.mem.length p.cm,.slice q.am h.mem.length q.cm] u fun e w'=>e=.returned (.bool true)∧w'=u):=fun u hu=>wE _ _ _ _ _ h.mem u (hp.mem.keep hu) (hq.mem.keep hu) h0;have E2:Hid (∀u,Below w.heap.size w u->Calls Tryz.prog 30 #[.slice p.ar h.regs.length p.cr,.slice q.ar h.regs.length q.cr] u fun e w'=>e=.returned (.bool true)∧Below u.heap.size u w'):=fun u hu=>(yI _ _ _ _ _ h.regs u (hp.regs.keep hu) (hq.regs.keep hu) hb.r).mono (by
  rintro e w' ⟨rfl,n,rfl⟩;exact ⟨rfl,tL _ _⟩)
 clear hp hq hb;have F:=ku w (dG ea evs.length ec p h) (dG eb evs.length ed q h) 31 31;have A0:Hid ((dG ea evs.length ec p h)[0]?=some (.slice ea evs.length ec)):=by show _=_;rfl
 have B0:Hid ((dG eb evs.length ed q h)[0]?=some (.slice eb evs.length ed)):=by show _=_;rfl
 have A1:Hid ((dG ea evs.length ec p h)[1]?=some (.slice p.am h.mem.length p.cm)):=by show _=_;rfl
 have B1:Hid ((dG eb evs.length ed q h)[1]?=some (.slice q.am h.mem.length q.cm)):=by show _=_;rfl
 have A2:Hid ((dG ea evs.length ec p h)[2]?=some (.slice p.ar h.regs.length p.cr)):=by show _=_;rfl
 have B2:Hid ((dG eb evs.length ed q h)[2]?=some (.slice q.ar h.regs.length q.cr)):=by show _=_;rfl
 have A3:Hid ((dG ea evs.length ec p h)[3]?=some (VU h.pc)):=by show _=_;rfl
 have B3:Hid ((dG eb evs.length ed q h)[3]?=some (VU h.pc)):=by show _=_;rfl
 have A4:Hid ((dG ea evs.length ec p h)[4]?=some (VI h.mode)):=by show _=_;rfl
 have B4:Hid ((dG eb evs.length ed q h)[4]?=some (VI h.mode)):=by show _=_;rfl
 have A5:Hid ((dG ea evs.length ec p h)[5]?=some (.bool h.sum)):=by show _=_;rfl
 have B5:Hid ((dG eb evs.length ed q h)[5]?=some (.bool h.sum)):=by show _=_;rfl
 have A6:Hid ((dG ea evs.length ec p h)[6]?=some (.bool h.mxr)):=by show _=_;rfl
 have B6:Hid ((dG eb evs.length ed q h)[6]?=some (.bool h.mxr)):=by show _=_;rfl
 have A7:Hid ((dG ea evs.length ec p h)[7]?=some (VU h.satp)):=by show _=_;rfl
 have B7:Hid ((dG eb evs.length ed q h)[7]?=some (VU h.satp)):=by show _=_;rfl
 have A8:Hid ((dG ea evs.length ec p h)[8]?=some (VU h.epc)):=by show _=_;rfl
 have B8:Hid ((dG eb evs.length ed q h)[8]?=some (VU h.epc)):=by show _=_;rfl
 have A9:Hid ((dG ea evs.length ec p h)[9]?=some (VI h.emode)):=by show _=_;rfl
 have B9:Hid ((dG eb evs.length ed q h)[9]?=some (VI h.emode)):=by show _=_;rfl
 have A10:Hid ((dG ea evs.length ec p h)[10]?=some (VI h.cause)):=by show _=_;rfl
 have B10:Hid ((dG eb evs.length ed q h)[10]?=some (VI h.cause)):=by show _=_;rfl
 have A11:Hid ((dG ea evs.length ec p h)[11]?=some (VU h.tval)):=by show _=_;rfl
 have B11:Hid ((dG eb evs.length ed q h)[11]?=some (VU h.tval)):=by show _=_;rfl
 generalize dG ea evs.length ec p h=A at *;generalize dG eb evs.length ed q h=B at *;go_enter Tryz.func11,Tryz.ntmps11;go_upto_region 1 with fail;generalize (w.alloc (Obj.cells A 31)).alloc (Obj.cells B 31)=u0 at F |-;obtain ⟨f1,f2,hz,n0⟩:=F;have H1:Hid _:=f1;have H2:Hid _:=f2;clear f1 f2;have c0:=ab H1.out 0 A0.out;have d0:=ab H2.out 0 B0.out;go_wp2_with fail;refine (E0.out u0 n0).mono ?_;rintro e u1 ⟨rfl,m0⟩;have n1:=Below.step n0 m0 (Nat.le_refl _);replace H1:=ah H1 m0;replace H2:=ah H2 m0;clear c0 d0;have c1:=ab H1.out 1 A1.out;have d1:=ab H2.out 1 B1.out;have c2:=ab H1.out 2 A2.out;have d2:=ab H2.out 2 B2.out;go_wp2_with fail;refine (E1.out u1 n1).mono ?_;rintro e _ ⟨rfl,rfl⟩;go_wp2_with fail;refine (E2.out _ n1).mono ?_;rintro e u3 ⟨rfl,m2⟩;have n3:=Below.step n1 m2 (Nat.le_refl _);replace H1:=ah H1 m2;replace H2:=ah H2 m2;clear c1 d1 c2 d2;have c3:=ab H1.out 3 A3.out;have d3:=ab H2.out 3 B3.out;have c4:=ab H1.out 4 A4.out;have d4:=ab H2.out 4 B4.out;have c5:=ab H1.out 5 A5.out;have d5:=ab H2.out 5 B5.out;have c6:=ab H1.out 6 A6.out;have d6:=ab H2.out 6 B6.out;have c7:=ab H1.out 7 A7.out;have d7:=ab H2.out 7 B7.out;have c8:=ab H1.out 8 A8.out;have d8:=ab H2.out 8 B8.out;have c9:=ab H1.out 9 A9.out;have d9:=ab H2.out 9 B9.out;have c10:=ab H1.out 10 A10.out;have d10:=ab H2.out 10 B10.out;have c11:=ab H1.out 11 A11.out;have d11:=ab H2.out 11 B11.out;go_wp2;go_ret;exact ⟨rfl,n3⟩
theorem ES (v:World) (V:Array Value) (hs:V.size=12) (h1:V.all (·.oneCell')=true):
 ∃v',(Instr.storeAt 31 (PT v.heap.size 0) (.agg V)).run Tryz.prog (v.alloc (Obj.cells mJ 31))=.ok () v'∧v'.heap[v.heap.size]?=some (.cells V 31 (0,0))∧v.heap.size<v'.heap.size∧Bw v v':=by
 have a:=bX v mJ 31;refine ⟨_,aR (P:=Tryz.prog) (T:=31) a.1 (by rw [hs];exact tK) (by rw [hs];rfl) h1,aH a.1 (by rw [hs];rfl),?_,?_⟩
 ·rw [cJ,a.2.1];exact Nat.lt_succ_self _
 ·exact aJ (Nat.le_refl _) _ _ _ a.2.2
theorem ET {v:World} {g:Nat} {V:Array Value} (hs:V.size=12) (h:v.heap[g]?=some (.cells V 31 (0,0))):(Instr.loadAt 31 (PT g 0)).run Tryz.prog v=.ok (.agg V) v:=
 aT h Tryz.underlying31 rfl (by rw [hs];exact tK)
theorem ldp {v:World} {b i n m:Nat} {a:Option Addr} (h:v.cell? (AD b i)=some (.slice a n m)):(Instr.loadAt 44 (PT b i)).run Tryz.prog v=.ok (.slice a n m) v:=by go_simp
theorem ldi {v:World} {b i:Nat} {s:Int} (h:v.cell? (AD b i)=some (VI s)):(Instr.loadAt 2 (PT b i)).run Tryz.prog v=.ok (VI s) v:=by go_simp
end
section
attribute [local go_sem ↓] Go.wp_at_zero Go.wp_at_succ
def Bi (gs:List ay):Prop:=∀g∈gs,0<=g.2.2.2.1∧g.2.2.2.1<=2
theorem zW {h:HartM} {kind va:Int}:∀{rs:List aQ} {gs:List ay},Bi gs->(∀r∈rs,0<=r.1∧r.1<=2)->Bi (dU h kind va rs gs)
 | [],gs,hg,_=>hg
 | r::rs,gs,hg,hr=>by
  rw [dU];refine zW ?_ (fun x hx=>hr x (List.mem_cons_of_mem _ hx));split
  ·unfold qR;split
   ·exact hg
   ·intro g hm;rcases List.mem_append.1 hm with hm | hm
    ·exact hg g hm
    ·have:g=fz va h.satp r:=by simpa using hm
     subst this;exact hr r (List.mem_cons_self ..)
  ·exact hg
theorem D9 {gs:List ay} {h:HartM} {l:Int × Int} (hz:∀i:Nat,0<=h.mem[i]?.getD 0∧h.mem[i]?.getD 0<=255) (hg:Bi gs):Bi (dl gs h l).2∧(dl gs h l).2.length<=gs.length+3:=by
 have wb:=Cl h.mem h.satp l.2 hz;unfold dl;split
 ·exact ⟨hg,by simp⟩
 ·split
  ·refine ⟨zW hg fun r hr=>(wb.2 r hr).1,?_⟩;have:=uf h l.1 l.2 (bO h.mem h.satp l.2).2.2.2 gs;have:=wb.1;simp only;omega
  ·exact ⟨hg,by simp⟩
theorem Ea {gs:List ay} {f:FenceM} (hg:Bi gs):Bi (dD gs f):=fun g hm=>hg g (List.mem_filter.1 hm).1
theorem zX:∀(ls:List (Int × Int)) (k:Nat) (l:Int × Int),ls[k]?=some l->(fH ls)[k*2]?=some (VI l.1)∧(fH ls)[k*2+1]?=some (VU l.2)
 | x::ls,0,l,h=>by
  simp at h;subst h;simp [fH]
 | x::ls,k+1,l,h=>by
  have ih:=zX ls k l (by simpa using h);have e0:(k+1)*2=k*2+2:=by omega
  rw [e0];simpa [fH] using ih
theorem uh (h:HartM):∀(ls:List (Int × Int)) (k:Nat) (gs:List ay),(be h (ls.take k) gs).1=false->(be h ls gs).1=false
 | [],k,gs,hh=>by simpa using hh
 | l::ls,0,gs,hh=>by simp [be] at hh
 | l::ls,k+1,gs,hh=>by
  rw [List.take_succ_cons,be] at hh;rw [be];by_cases c:(dl gs h l).1=true
  ·rw [if_pos c] at hh |-;exact uh h ls k _ hh
  ·rw [if_neg c]
structure DisS (w wr:World) (b3 b4:Nat) (S:Array Value) (pa:Option Addr) (pc:Nat) (ps:List Int) (q:PtrM) (h:HartM):Prop where
 n:Bw w wr
 h2:wr.heap[w.heap.size]?=some (.cells #[.bool false,VI 0] 24 (0,0))
 h3:wr.heap[b3]?=some (.cells S 46 (0,0))
 pk:wr.ownsRow w.heap.size 2 1 (.slice pa ps.length pc) ps.length (cU ps)
 h4:wr.heap[b4]?=some (.cells (aj q h) 43 (0,0))
 hi:HartIn wr q h
 ok:HOk h
 ne:∀x,some x∈aU q->x.block≠w.heap.size∧x.block≠b4
theorem DisS.keep {w wr v:World} {b3 b4:Nat} {S:Array Value} {pa:Option Addr} {pc:Nat} {ps:List Int} {q:PtrM} {h:HartM} (k:DisS w wr b3 b4 S pa pc ps q h) (hb:Bw wr v):DisS w v b3 b4 S pa pc ps q h:=
 ⟨bst k.n hb,ae k.h2 hb (hpl k.h2),ae k.h3 hb (hpl k.h3),aq k.pk hb,ae k.h4 hb (hpl k.h4),k.hi.keep hb,k.ok,k.ne⟩
theorem DisS.next {w wr:World} {b3 b4:Nat} {S:Array Value} {pa:Option Addr} {pc:Nat} {ps:List Int} {q q':PtrM} {h h':HartM} (k:DisS w wr b3 b4 S pa pc ps q h) (hi:HartIn wr q' h') (ok:HOk h') (hne:∀x,some x∈aU q'->x.block≠w.heap.size∧x.block≠b4) (n3:b3≠b4) (l4:w.heap.size<b4):
 DisS w (wr.setCells b4 0 (aj q' h').toList) b3 b4 S pa pc ps q' h':=by
 have g:=aG b4 (aj q' h').toList 0 wr _ (ak _ _);exact ⟨aJ (by omega) _ _ _ k.n,aA k.h2 g (by omega),aA k.h3 g n3,bA k.pk k.h4 (by decide) g,aH k.h4 rfl,hi.gb g (fun x hx=>(hne x hx).2),ok,hne⟩
structure GhS (wr:World) (B b4 gg:Nat) (gs:List ay):Prop where
 row:RowC wr (some (AD gg 0)) gs.length 6 (iJ gs)
 lev:Bi gs
 ne:B<gg∧gg≠b4
theorem GhS.keep {wr v:World} {B b4 gg:Nat} {gs:List ay} (k:GhS wr B b4 gg gs) (hb:Bw wr v):GhS v B b4 gg gs:=⟨k.row.keep hb,k.lev,k.ne⟩
theorem vN:(Tryz.prog.info? 24).map (·.size)=some 2:=by kernel_rfl
set_option maxHeartbeats 25600000 in
theorem zY (a:Option Addr) (len cap:Nat) (zs:List Int) (w:World) (hB:Byt w a len zs) (hl:len<=1048576):
 Calls Tryz.prog 7 #[.slice a len cap] w fun e w'=>e=.returned (.agg #[.bool (jV (bq zs) (aI zs) [] 0).1,VI ((jV (bq zs) (aI zs) [] 0).2:Int)])∧Bw w w':=by
 have hok:=la hB.2.1;have pl:(bq zs).length<=20000:=by
  simp only [bq,List.length_map,List.length_range,it];omega
 have PB:Hid (∀y∈bq zs,0<=y∧y<=255):=jO hB.2.1;have CS:Hid (∀u,Bw w u->Calls Tryz.prog 15 #[.slice a len cap] u (oz u (aI zs) (bq zs))):=fun u hu=>mq a len cap zs u (hB.keep hu) hl;clear hB hl;generalize aI zs=h0 at *;generalize bq zs=ps at *;obtain ⟨R,hR⟩:∃R,jV ps h0 [] 0=R:=⟨_,rfl⟩;have HR:=hid hR;rw [hR];clear hR;have HOK:Hid (HOk h0):=hok;clear hok;go_enter Tryz.func7,Tryz.ntmps7;go_upto_region 1 with fail;obtain ⟨u0,Eu0,n0,H2,l0⟩:=al1 w #[.bool false,VI 0] 24;rw [Eu0.out];clear Eu0;go_wp2_with fail;refine (CS.out u0 n0).mono ?_;rintro e v1 ⟨⟨p,pa,pc,rfl,hi,hge,op⟩,n1⟩;have s1:=n1.size;have HI:Hid _:=hi;have HG:Hid (∀x,some x∈aU p->w.heap.size<x.block∧x.block<v1.heap.size):=fun x hx=>⟨by have:=hge x hx;omega,hi.low x hx⟩;have OP:Hid (v1.ownsRow w.heap.size 2 1 (.slice pa ps.length pc) ps.length (cU ps)):=bW op n0.size;replace H2:=ah H2 n1;replace n0:=bst n0 n1;clear hi hge op n1;obtain ⟨v2,hs2,P2,l2,n2⟩:=pV v1 (cF p pa pc h0 ps) rfl (iL _ _ _ _ _);have SH:Hid _:=qd p pa pc h0 ps;have SP:Hid _:=qf p pa pc h0 ps;have HS2:Hid _:=hs2;generalize cF p pa pc h0 ps=S at *;have H3:Hid _:=P2;replace H2:=ah H2 n2;replace n0:=bst n0 n2;replace HI:Hid _:=HI.out.keep n2;replace OP:Hid _:=aq OP.out n2;clear hs2 P2 n2;go_upto_region 2 with (first | ((with_reducible refine ax ?_ ?_ HS2.out ?_);(exact rfl);(exact rfl)));clear HS2;have J5:Hid _:=ez (P:=Tryz.prog) (T:=43) H3.out Tryz.underlying43 rfl (o:=0) (aj p h0).toList fm SH.out rfl;rw [show (aj p h0).toList.toArray=aj p h0 from rfl] at J5;obtain ⟨v3,hs3,P3,l3,n3⟩:=uV v2 (aj p h0) rfl (fP _ _);have HS3:Hid _:=hs3;have H4:Hid _:=P3;obtain ⟨A0,hA0⟩:∃A,aj p h0=A:=⟨_,rfl⟩;have EA:Hid _:=hA0;rw [hA0] at J5 HS3;replace H2:=ah H2 n3;replace H3:=ah H3 n3;replace n0:=bst n0 n3;replace HI:Hid _:=HI.out.keep n3;replace OP:Hid _:=aq OP.out n3;have s3:=n3.size;clear hs3 P3 n3 hA0;go_upto_region 3 with (first | ((with_reducible refine aZ ?_ J5.out ?_);(exact rfl)) | ((with_reducible refine ax ?_ ?_ HS3.out ?_);(exact rfl);(exact rfl)));clear J5 HS3 EA;go_upto_region 4 with fail;obtain ⟨v4,Ev4,n4,_,z4⟩:=al1 v3 #[] 144;rw [Ev4.out];have K0:Hid (DisS w v4 v1.heap.size v2.heap.size S pa pc ps p h0):=⟨bst n0 n4,(ah H2 n4).out,(ah H3 n4).out,aq OP.out n4,(ah H4 n4).out,HI.out.keep n4,HOK.out,fun x hx=>by
  have:=HG.out x hx;exact ⟨by omega,by omega⟩⟩
 have G0:Hid (GhS v4 w.heap.size v2.heap.size v3.heap.size []):=⟨⟨rfl,.inl rfl⟩,fun g hg=>(by cases hg),⟨by omega,by omega⟩⟩;have b34:v1.heap.size<v2.heap.size:=l2;have b23:w.heap.size<v1.heap.size:=by omega
 have b4:v2.heap.size<v3.heap.size:=l3;clear Ev4 n4 H2 H3 H4 n0 HI OP HG HOK z4 s1 s3 l2 l3 l0;generalize v1.heap.size=g3 at *;generalize v2.heap.size=g4 at *;generalize v3.heap.size=g5 at *;go_wp2;go_loopw [5,6] (fun gv ii wr=>∃(i gg gc:Nat) (q:PtrM) (h:HartM) (gs:List ay),i<=ps.length∧ii=VI i∧gv=SL gg gs.length gc∧gs.length<=9*i∧DisS w wr g3 g4 S pa pc ps q h∧GhS wr w.heap.size g4 gg gs∧jV (ps.drop i) h gs i=R) (fun _ ii _=>ps.length-(intOf ii).toNat)
 case atStart=>exact ⟨0,g5,0,p,h0,[],Nat.zero_le _,rfl,rfl,Nat.zero_le _,K0.out,G0.out,by rw [List.drop_zero];exact HR.out⟩
 case round=>
 obtain ⟨i,gg,gc,q,h,gs,hi,rfl,rfl,hgl,k,kg,hr⟩:=hrel;clear K0 G0 HR;have HK:=hid k;have HGS:=hid kg;have HRR:=hid hr;clear k kg hr;have c21:=ab HK.out.h3 21 SP.out;have lw3:g3<wr.heap.size:=(hpl HK.out.h3);have lw4:g4<wr.heap.size:=(hpl HK.out.h4);by_cases hlt:i<ps.length
 ·have hlt':decide ((i:Int)<(ps.length:Int))=true:=by simp;omega
  have HDD:=hid (zh ps i hlt h gs);obtain ⟨y,hy⟩:∃y,ps[i]=y:=⟨_,rfl⟩;rw [hy,HRR.out] at HDD;have by':0<=y∧y<=255:=by rw [<-hy];exact PB.out _ (List.getElem_mem hlt)
  have pki:(cU ps)[i]?=some (VI y):=by
   rw [<-hy];simp [cU,List.getElem?_eq_getElem hlt]
  obtain ⟨pg,hpg⟩:=kC HK.out.pk (by omega);subst hpg;have HLy:Hid (∀u,Bw wr u->(Instr.loadAt 2 (PT pg i)).run Tryz.prog u=.ok (VI y) u):=fun u hu=>by
   have h1:=aM (aq HK.out.pk hu) i _ pki;exact jdi (by simpa using h1)
  have HSt:=hid fun (u:World) (hu:Bw wr u)=>sQ yr q h y u (HK.out.hi.keep hu) HK.out.ok by';have HXR:=hid (mt true by' HK.out.ok);have HLK:=hid (tH true y h);clear pki hy HRR;generalize bT true y h=X at *;have HLa:=hid fun u (hu:Bw wr u)=>nH (V:=aj q h) rfl (ae HK.out.h4 hu lw4);have HLs:Hid (∀u,Bw wr u->(Instr.loadAt 44 (PT g3 21)).run Tryz.prog u=.ok (SL pg ps.length pc) u):=fun u hu=>by
   have h1:=ab (ae HK.out.h3 hu lw3) 21 SP.out;go_simp
  have HHA:=hid (show ∀u,HartIn u q h->HartIn u q h from fun _ k=>k);obtain ⟨AH,hAH⟩:∃A,aj q h=A:=⟨_,rfl⟩;have EAH:=hid hAH;rw [hAH] at HSt HLa;clear hAH HHA;go_upto_region 7 with fail;clear c21;have hF:=bdr wr;refine az (Bw wr) 8 ?_;refine ao 0 22 _ rfl hF ?_ (hy:=fun u hu=>aK rfl (HLa.out u hu));refine ao 1 23 (PT g3 21) rfl hF ?_
  go_frame
  refine ao 2 24 _ rfl hF ?_ (hy:=fun u hu=>aK rfl (HLs.out u hu));refine ao 3 25 (VI (i:Int)) rfl hF ?_
  go_frame
  refine ao 4 26 (PT pg i) rfl hF ?_ (hy:=fun u hu=>by have h1:=hlt;go_simp)
  go_frame
  refine ao 5 27 _ rfl hF ?_ (hy:=fun u hu=>aK rfl (HLy.out u hu))
  go_frame
  refine Gs 6 7 28 7 (Z:=eV) (T:=61) (fun u z v=>∃p' al' cl',z=.agg (aF p' al' cl' true y X)∧RunIn v p' al' cl' X∧(∀q,some q∈aU p'->u.heap.size<=q.block)∧∀q,al'=some q->u.heap.size<=q.block) rfl rfl rfl (fun u hu=>bst hF hu) (fun u hu=>(HSt.out u (bst hF hu)).mono fun e w' ⟨⟨p',al',cl',h1,h2,h3,h4⟩,n⟩=>⟨⟨_,h1,p',al',cl',rfl,h2,h3,h4⟩,n⟩) ?_;rintro _ pb u v6' v6 hu ⟨p',al',cl',rfl,hh6,hge,hgl'⟩ hb6 hpu hpb hz hn;have n6:=bst hF hn;have lu:=hu.size;replace lu:wr.heap.size<=u.heap.size:=lu;replace hpb:wr.heap.size<=pb:=hpb;have hne6:∀x,some x∈aU p'->x.block≠pb:=fun x hx=>by
   have:=hge x hx;have:=hh6.h.low x hx;omega
  have hnl6:∀x,al'=some x->x.block≠pb:=fun x hx=>by
   have:=hgl' x hx;have:=hh6.low x hx;omega
  go_frame
  have RA:(aF p' al' cl' true y X).size=31:=rfl;have RO:=dO p' al' cl' true y X;have R25:=hid (show (aF p' al' cl' true y X)[25]?=some (.slice al' X.looks.length cl') from rfl);have R26:=hid (show (aF p' al' cl' true y X)[26]?=some (.bool X.fenced) from rfl);have R27:=hid (show (aF p' al' cl' true y X)[27]?=some (.bool X.fence.hasVa) from rfl);have R28:=hid (show (aF p' al' cl' true y X)[28]?=some (VU X.fence.va) from rfl);have R29:=hid (show (aF p' al' cl' true y X)[29]?=some (.bool X.fence.hasAsid) from rfl);have R30:=hid (show (aF p' al' cl' true y X)[30]?=some (VU X.fence.asid) from rfl);have R0:=hid (show ((aF p' al' cl' true y X).toList.drop 0).take 21=(aj p' X.h).toList from rfl);have HH:=hid (hh6.h.keep hb6);have HLr:=hid (hh6.looks.keep hb6);generalize aF p' al' cl' true y X=RR at *;have HS9:=hid (aR (P:=Tryz.prog) (T:=61) (V:=RR) hz (by rw [RA];exact dx) (by rw [RA,aS]) RO);have e9:=hid (aH (V:=RR) hz (by rw [RA,aS]));have gS:=aG pb RR.toList 0 v6 _ (ak _ _);have n9:Bw wr (v6.setCells pb 0 RR.toList):=aJ hpb RR.toList 0 _ n6;replace HH:=hid (HH.out.gb gS hne6);have HLL:Hid (RowC (v6.setCells pb 0 RR.toList) al' X.looks.length 2 (fH X.looks)):=Ft HLr.out gS (.inr hnl6);have hge':Hid (∀x,some x∈aU p'->wr.heap.size<=x.block):=fun x hx=>Nat.le_trans lu (hge x hx);refine ey 8 7 28 rfl HS9.out ?_;refine dJ ?_;generalize v6.setCells pb 0 RR.toList=v7 at e9 n9 HH HLL |-;clear gS HS9 hge hgl' n6 hz hn hu hb6 hpu hne6 hnl6 hh6 HLr HLa HLs HLy HSt hF;replace HK:=hid (HK.out.keep n9);replace HGS:=hid (HGS.out.keep n9);have lw2:w.heap.size<v7.heap.size:=hpl HK.out.h2;have lv4:g4<v7.heap.size:=hpl HK.out.h4;have hwv:wr.heap.size<=v7.heap.size:=n9.size;have hw4:g4<wr.heap.size:=lw4;have hww:w.heap.size<wr.heap.size:=by omega
  have HPN:Hid (∀x,some x∈aU p'->x.block≠w.heap.size∧x.block≠g4):=fun x hx=>by
   have:=hge'.out x hx;exact ⟨by omega,by omega⟩
  have HLW:=hid HLK.out;have hlk3:=HLK.out;clear hge' HLK n9 lw3 lw4 lu hpb;generalize wr=vr at *;go_wp2;go_loopw [5,8] (fun gv kk wr=>∃(k gg2 gc2:Nat) (gs2:List ay),k<=X.looks.length∧kk=VI k∧gv=SL gg2 gs2.length gc2∧gs2.length<=gs.length+3*k∧be h (X.looks.take k) gs=(true,gs2)∧GhS wr w.heap.size g4 gg2 gs2∧Bw v7 wr) (fun _ kk _=>X.looks.length-(intOf kk).toNat)
  case atStart=>exact ⟨0,gg,gc,gs,Nat.zero_le _,rfl,rfl,by omega,rfl,HGS.out,Below.refl _ _⟩
  case round=>
  obtain ⟨k,gg2,gc2,gs2,hk,rfl,rfl,hg2,hju,kg2,hb2⟩:=hrel;have HJU:=hid hju;have HG2:=hid kg2;clear hju kg2 HGS;have HKr:=hid (HK.out.keep hb2);have E9:=ah e9 hb2;have c25:=ab E9.out 25 R25.out;have lpb:pb<wr.heap.size:=hpl E9.out;have lr4:g4<wr.heap.size:=hpl HKr.out.h4;have lr2:w.heap.size<wr.heap.size:=hpl HKr.out.h2;by_cases hkl:k<X.looks.length
  ·obtain ⟨l,hl'⟩:∃l,X.looks[k]?=some l:=⟨_,List.getElem?_eq_getElem hkl⟩;have hlb:=HXR.out.looks l (List.mem_of_getElem? hl');obtain ⟨lb,lo,hal⟩:=mU HLL.out (by omega);subst hal;obtain ⟨lc0,lc1⟩:=zX _ _ _ hl';have hkd:decide ((k:Int)<(X.looks.length:Int))=true:=by simp;omega
   have HLl:Hid (∀u,Bw wr u->(Instr.loadAt 66 (PT lb (lo+k*2))).run Tryz.prog u=.ok (.agg #[VI l.1,VU l.2]) u):=fun u hu=>by
    rcases (HLL.out.keep (bst hb2 hu)).2 with h0 | ⟨b',o',e',_,hc⟩
    ·omega
    ·cases e';have h1:=hc _ _ lc0;have h2:=hc _ _ lc1;rw [<-Nat.add_assoc] at h2;go_simp
   have HJs:Hid (be h (X.looks.take (k+1)) gs=dl gs2 h l):=by
    show _=_;rw [List.take_add_one,hl'];show be h (X.looks.take k++[l]) gs=_;rw [kc,HJU.out];rfl
   obtain ⟨hjl1,hjl2⟩:=D9 (l:=l) HKr.out.ok.mem HG2.out.lev;have HJL:=hid hjl1;have CJ:=hid fun (u:World) (hu:Bw wr u)=>zU gg2 gc2 gs2 q h l.1 l.2 u ⟨HG2.out.row.keep hu,HG2.out.lev,by omega,HKr.out.hi.mem.keep hu,HKr.out.hi.memc,by have:=HKr.out.ok.v.size;simp only [eR,decide_eq_true_eq] at this;omega,HKr.out.ok.satp,hlb.2⟩;obtain ⟨⟨ok,gs3⟩,hJX⟩:∃J,dl gs2 h l=J:=⟨_,rfl⟩;have hl2:(l.1,l.2)=l:=rfl;rw [hl2,hJX,EAH.out] at CJ;rw [hJX] at HJs HJL hjl2;simp only at CJ hjl2;have HLa:=hid fun u (hu:Bw wr u)=>nH (V:=aj q h) rfl (ae HKr.out.h4 hu lr4);rw [EAH.out] at HLa;have HLs:Hid (∀u,Bw wr u->(Instr.loadAt 57 (PT pb 25)).run Tryz.prog u=.ok (.slice (some (AD lb lo)) X.looks.length cl') u):=fun u hu=>by
    have h1:=ab (ah E9 hu).out 25 R25.out;go_simp
   clear hl' hJX hl2 lc0 lc1 hjl1;obtain ⟨l1,l2⟩:=l;simp only at HLl CJ hlb;go_upto_region 12 with fail;have hF:=bdr wr;refine az (Bw wr) 12 ?_;refine ao 0 37 (SL gg2 gs2.length gc2) rfl hF ?_;refine ao 1 38 _ rfl hF ?_ (hy:=fun u hu=>aK rfl (HLa.out u hu));refine ao 2 39 (PT pb 25) rfl hF ?_
   go_frame
   refine ao 3 40 _ rfl hF ?_ (hy:=fun u hu=>aK rfl (HLs.out u hu));refine ao 4 41 (VI (k:Int)) rfl hF ?_
   go_frame
   refine ao 5 42 (PT lb (lo+k*2)) rfl hF ?_ (hy:=fun u hu=>by have h1:=hkl;go_simp)
   go_frame
   refine ao 6 43 _ rfl hF ?_ (hy:=fun u hu=>aK rfl (HLl.out u hu))
   go_frame
   refine cW 7 44 rfl ((CJ.out _ hF).mono ?_);rintro e va' ⟨⟨g',c',rfl,hrow,hgg⟩,na⟩;have ba:=bst hF na;refine ⟨_,rfl,fun _=>ba,?_⟩
   go_frame
   refine ao 8 36 (.tuple #[.bool ok,SL g' gs3.length c']) rfl ba ?_
   go_frame
   refine ao 9 45 (.bool ok) rfl ba ?_;refine ao 10 46 (SL g' gs3.length c') rfl ba ?_
   go_frame
   refine ao 11 9 (.bool ok) rfl ba ?_
   go_frame
   refine kU 12 rfl ?_;replace hgg:g'=gg2∨wr.heap.size<=g':=hgg;have GN:Hid (GhS va' w.heap.size g4 g' gs3):=⟨hrow,HJL.out,by
    rcases hgg with rfl | hgg
    ·exact HG2.out.ne
    ·exact ⟨by omega,by omega⟩⟩
   have KN:=hid (HKr.out.keep ba);have nN:=bst hb2 ba;clear HLa HLs HLl CJ hrow hgg hF c25 HG2 HKr E9;cases ok
   ·have hRe:R=(false,i):=by
     have:=uh h X.looks (k+1) gs (by rw [HJs.out]);rw [HDD.out,if_neg (by rw [this];decide)]
    subst hRe;have HS:=hid (aR (P:=Tryz.prog) (T:=24) (V:=#[.bool false,VI (i:Int)]) KN.out.h2 vN rfl (by simp [Value.oneCell']));have e1:=aH (V:=#[.bool false,VI (i:Int)]) KN.out.h2 rfl;have e2:=aJ nle (#[.bool false,VI (i:Int)]:Array Value).toList 0 _ KN.out.n;go_wp2_with (first | ((with_reducible refine ax ?_ ?_ HS.out ?_);(exact rfl);(exact rfl)));exact dE (b:=w.heap.size) Tryz.results7 rfl (bE (P:=Tryz.prog) e1 Tryz.underlying24 rfl vN) rfl ⟨rfl,e2⟩
   ·go_wp2;go_roundw
    case rel=>exact ⟨k+1,g',c',gs3,by omega,by go_num,rfl,by omega,HJs.out,GN.out,nN⟩
    case measure=>simp [intOf];omega
  ·have hkn:k=X.looks.length:=by omega
   subst hkn;have hkd:decide ((X.looks.length:Int)<(X.looks.length:Int))=false:=by simp
   rw [List.take_length] at HJU;rw [HJU.out,if_pos rfl] at HDD;have c26:=ab E9.out 26 R26.out;have c27:=ab E9.out 27 R27.out;have c28:=ab E9.out 28 R28.out;have c29:=ab E9.out 29 R29.out;have c30:=ab E9.out 30 R30.out;have HHr:=hid (HH.out.keep hb2);have hfb:=HXR.out.fva;unfold inU at hfb;have CF:Hid (Calls Tryz.prog 24 #[SL gg2 gs2.length gc2,.agg #[.bool X.fence.hasVa,VU X.fence.va,.bool X.fence.hasAsid,VU X.fence.asid]] wr fun e w'=>(∃g cap,e=.returned (SL g (dD gs2 X.fence).length cap)∧OwnC 144 6 w' wr.heap.size g (dD gs2 X.fence).length cap (iJ (dD gs2 X.fence)))∧Bw wr w'):=xT gg2 gc2 gs2 X.fence wr HG2.out.row HG2.out.lev hfb.1 hfb.2 (by omega);have FIN:Hid (∀(u:World) (g' c':Nat) (gs':List ay),Bw wr u->GhS u w.heap.size g4 g' gs'->gs'.length<=gs2.length->eu X gs2=gs'->
    DisS w (u.setCells g4 0 (aj p' X.h).toList) g3 g4 S (some (AD pg 0)) pc ps p' X.h∧GhS (u.setCells g4 0 (aj p' X.h).toList) w.heap.size g4 g' gs'∧gs'.length<=9*(i+1)∧jV (ps.drop (i+1)) X.h gs' (i+1)=R):=fun u g' c' gs' hu kg hl ha=>by
    have g:=aG g4 (aj p' X.h).toList 0 u _ (ak _ _);refine ⟨(HKr.out.keep hu).next (HHr.out.keep hu) HXR.out.h HPN.out (by omega) (by omega),⟨Ft kg.row g (.inr fun x hx=>?_),kg.lev,kg.ne⟩,by omega,?_⟩
    ·cases hx;exact kg.ne.2
    ·rw [<-ha];exact HDD.out.symm
   have HLx:=hid fun u (hu:Bw wr u)=>ez (P:=Tryz.prog) (T:=43) (ah E9 hu).out Tryz.underlying43 rfl (o:=0) (aj p' X.h).toList fm R0.out rfl;have HSx:=hid fun u (hu:Bw wr u)=>aR (P:=Tryz.prog) (T:=43) (V:=aj p' X.h) (ae HKr.out.h4 hu lr4) fm rfl (fP _ _);have EPX:(aj p' X.h).toList.toArray=aj p' X.h:=rfl;rw [EPX] at HLx;clear EPX HKr HHr HJU HDD;go_upto_region 15 with fail;clear c25;cases hfd:X.fenced
   ·rw [hfd] at c26;have J:=hid (HLx.out wr (Below.refl _ _));have JS:=hid (HSx.out wr (Below.refl _ _));obtain ⟨f1,f2,f3,f4⟩:=FIN.out wr gg2 gc2 gs2 (Below.refl _ _) HG2.out nle (by unfold eu;rw [hfd];rfl);have F1:=hid f1;have F2:=hid f2;have F4:=hid f4;clear f1 f2 f4 HLx HSx FIN CF hfd;generalize aj p' X.h=AX at J JS F1 F2;go_wp2_with (first | ((with_reducible refine aZ ?_ J.out ?_);(exact rfl)) | ((with_reducible refine ax ?_ ?_ JS.out ?_);(exact rfl);(exact rfl)));go_roundw
    case rel=>exact ⟨i+1,gg2,gc2,p',X.h,gs2,by omega,by go_num,rfl,f3,F1.out,F2.out,F4.out⟩
    case measure=>simp [intOf];omega
   ·rw [hfd] at c26;go_wp2_with fail;refine CF.out.mono ?_;rintro e u ⟨⟨g',c',rfl,ho⟩,nu⟩;have J:=hid (HLx.out u nu);have JS:=hid (HSx.out u nu);obtain ⟨f1,f2,f3,f4⟩:=FIN.out u g' c' (dD gs2 X.fence) nu ⟨ho.row,Ea HG2.out.lev,by have:=ho.facts.2.1;exact ⟨by omega,by omega⟩⟩ (Bq _ _) (by unfold eu;rw [hfd];rfl);have F1:=hid f1;have F2:=hid f2;have F4:=hid f4;have lpu:pb<u.heap.size:=Nat.lt_of_lt_of_le lpb nu.size;clear f1 f2 f4 HLx HSx FIN CF hfd ho c26 c27 c28 c29 c30;generalize aj p' X.h=AX at J JS F1 F2;generalize dD gs2 X.fence=gs4 at *;go_wp2_with (first | ((with_reducible refine aZ ?_ J.out ?_);(exact rfl)) | ((with_reducible refine ax ?_ ?_ JS.out ?_);(exact rfl);(exact rfl)));go_roundw
    case rel=>exact ⟨i+1,g',c',p',X.h,gs4,by omega,by go_num,rfl,f3,F1.out,F2.out,F4.out⟩
    case measure=>simp [intOf];omega
 ·have hin:i=ps.length:=by omega
  subst hin;have hlt':decide ((ps.length:Int)<(ps.length:Int))=false:=by simp
  have hRe:R=(true,ps.length):=by
   rw [<-HRR.out,List.drop_length];rfl
  subst hRe;have HS:=hid (aR (P:=Tryz.prog) (T:=24) (V:=#[.bool true,VI (ps.length:Int)]) HK.out.h2 vN rfl (by simp [Value.oneCell']));have e1:=aH (V:=#[.bool true,VI (ps.length:Int)]) HK.out.h2 rfl;have e2:=aJ nle (#[.bool true,VI (ps.length:Int)]:Array Value).toList 0 _ HK.out.n;go_wp2_with (first | ((with_reducible refine ax ?_ ?_ HS.out ?_);(exact rfl);(exact rfl)));exact dE (b:=w.heap.size) Tryz.results7 rfl (bE (P:=Tryz.prog) e1 Tryz.underlying24 rfl vN) rfl ⟨rfl,e2⟩
end
end Go.Proofs.YtkenjknmfhoppaaGreat
