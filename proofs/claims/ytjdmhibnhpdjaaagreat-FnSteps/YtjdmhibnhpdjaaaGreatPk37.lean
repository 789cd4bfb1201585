import Derived.Laws.BytesArg
import Derived.Test.YtjdmhibnhpdjaaaGreatPk35
import Derived.Test.YtjdmhibnhpdjaaaGreatPk36
import Derived.Test.YtjdmhibnhpdjaaaGreatPk22
import Derived.Test.YtjdmhibnhpdjaaaGreatPk13
namespace Go.Proofs.YtjdmhibnhpdjaaaGreat
open Go.RowKit
set_option linter.unusedVariables false
set_option maxHeartbeats 6400000
set_option maxRecDepth 20000
section
attribute [local go_sem ↓] Go.wp_at_zero Go.wp_at_succ
theorem yr (a b:Option Addr) (len ca cb:Nat) (zs:List Int) (w:World) (h:RowC w a len 1 (zs.map (Value.int .u64))) (h':RowC w b len 1 (zs.map (Value.int .u64))) (hl:len<=1048576):
 Calls Tryz.prog 32 #[.slice a len ca,.slice b len cb] w fun e w'=>e=.returned (.bool true)∧∃n,w'=w.drewN n:=by
 obtain ⟨h1,h3⟩:=h;obtain ⟨_,k3⟩:=h';have hz:zs.length=len:=by simpa using h1
 have HAt:Hid (∀k,k<len->(zs.map (Value.int .u64))[k]?=some (VU (zs[k]?.getD 0))):=fun k hk=>by
  have:k<zs.length:=by omega
  simp [this]
 clear h1;go_enter Tryz.func32,Tryz.ntmps32;go_wp2;go_loopw [5] (fun i wr=>∃(k:Nat),k<=len∧i=VI k∧∃n,wr=w.drewN n) (fun i _=>len-(intOf i).toNat)
 case atStart=>exact ⟨0,Nat.zero_le _,rfl,0,rfl⟩
 case round=>
  obtain ⟨k,hk,rfl,n,rfl⟩:=hrel;by_cases hlt:k<len
  ·rcases h3 with h3 | ⟨b1,o1,rfl,hb1,hc1⟩
   ·omega
   rcases k3 with k3 | ⟨b2,o2,rfl,hb2,hc2⟩
   ·omega
   have g1:=hc1 k _ (HAt.out k hlt);have g2:=hc2 k _ (HAt.out k hlt);generalize zs[k]?.getD 0=z at g1 g2;clear hc1 hc2;go_wp2;go_quiet (fail);go_wp2;go_roundw
   case rel=>exact ⟨k+1,by omega,by go_num,n+nq,rfl⟩
   case measure=>simp [intOf];omega
  ·go_wp2;go_ret;exact ⟨rfl,n,rfl⟩
theorem vh (a b:Option Addr) (n ca cb:Nat) (es:List EvM) (w:World) (h:RowC w a n 4 (bR es)) (h':RowC w b n 4 (bR es)) (hn:es.length=n) (hl:n<=1048576):
 Calls Tryz.prog 30 #[.slice a n ca,.slice b n cb] w fun e w'=>e=.returned (.bool true)∧Below w.heap.size w w':=by
 have HR:Hid (RowC w a n 4 (bR es)):=h;have HR':Hid (RowC w b n 4 (bR es)):=h';clear h h';go_enter Tryz.func30,Tryz.ntmps30;go_wp2;go_loopw [5] (fun i wr=>∃(k:Nat),k<=n∧i=VI k∧Below w.heap.size w wr) (fun i _=>n-(intOf i).toNat)
 case atStart=>exact ⟨0,Nat.zero_le _,rfl,brf⟩
 case round=>
  obtain ⟨k,hk,rfl,hb⟩:=hrel;by_cases hlt:k<n
  ·obtain ⟨x,hx⟩:∃x:EvM,es[k]?=some x:=⟨_,geg (by omega)⟩;have R1:=RowC.keep HR.out hb;have R2:=RowC.keep HR'.out hb;obtain ⟨b1,o1,rfl,lb1⟩:∃b1 o1,a=some (AD b1 o1)∧b1<wr.heap.size:=by
    rcases R1.2 with h | ⟨b1,o1,h,h2,_⟩
    ·omega
    ·exact ⟨b1,o1,h,h2⟩
   obtain ⟨b2,o2,rfl,lb2⟩:∃b2 o2,b=some (AD b2 o2)∧b2<wr.heap.size:=by
    rcases R2.2 with h | ⟨b2,o2,h,h2,_⟩
    ·omega
    ·exact ⟨b2,o2,h,h2⟩
   obtain ⟨vp,vm,vc,vt⟩:=x;have C1:=fun j u hj hu=>io (xJ R1 hn k _ hx j u hj hu) lb1;have C2:=fun j u hj hu=>io (xJ R2 hn k _ hx j u hj hu) lb2;have g0:∀u:Lies wr,u.w.cell? ⟨b1,o1+k*4,none⟩=some (VU vp):=C1 0 _ (by omega) rfl;have g1:∀u:Lies wr,u.w.cell? ⟨b1,o1+k*4+1,none⟩=some (VI vm):=C1 1 _ (by omega) rfl;have g2:∀u:Lies wr,u.w.cell? ⟨b1,o1+k*4+2,none⟩=some (VI vc):=C1 2 _ (by omega) rfl;have g3:∀u:Lies wr,u.w.cell? ⟨b1,o1+k*4+3,none⟩=some (VU vt):=C1 3 _ (by omega) rfl;have f0:∀u:Lies wr,u.w.cell? ⟨b2,o2+k*4,none⟩=some (VU vp):=C2 0 _ (by omega) rfl;have f1:∀u:Lies wr,u.w.cell? ⟨b2,o2+k*4+1,none⟩=some (VI vm):=C2 1 _ (by omega) rfl;have f2:∀u:Lies wr,u.w.cell? ⟨b2,o2+k*4+2,none⟩=some (VI vc):=C2 2 _ (by omega) rfl;have f3:∀u:Lies wr,u.w.cell? ⟨b2,o2+k*4+3,none⟩=some (VU vt):=C2 3 _ (by omega) rfl;have ne:=jF wr;clear C1 C2 R1 R2 hx;go_wp2_with fail;refine iR (by kernel_rfl) (by kernel_rfl) ?_;repeat (go_big_quiet_step (fail))
   refine wpQuiet_nil ?_;rintro _ ⟨u,rfl⟩;have hb2:=Below.step hb u.h (Nat.le_refl _);generalize u.w=v2 at hb2 |-;clear g0 g1 g2 g3 f0 f1 f2 f3 hb;go_wp2;go_roundw
   case rel=>exact ⟨k+1,by omega,by go_num,hb2⟩
   case measure=>simp [intOf];omega
  ·have hkl:k=n:=by omega
   subst hkl;go_wp2;go_ret;exact ⟨rfl,hb⟩
theorem ue {w:World} {a:Option Addr} {len:Nat} {zs:List Int} (h:Byt w a len zs) (h0:0<len) (c:Nat):(convert 22 9 (.slice a len c)).run Tryz.prog w=.ok (.string (strOfNums zs)) w:=by
 rcases h.2.2 with h1 | ⟨b,off,rfl,_,hc⟩
 ·omega
 ·exact run_convert_bytes_arg (P:=Tryz.prog) w 22 5 Tryz.underlying22 Tryz.underlying5 b off len c zs h.1 (fun i hi=>by rw [hc i hi,List.getD_eq_getElem?_getD]) 9 Tryz.underlying9
theorem xe (a b:Option Addr) (len ca cb:Nat) (zs:List Int) (w:World) (h:Byt w a len zs) (h':Byt w b len zs) (h0:0<len):
 Calls Tryz.prog 31 #[.slice a len ca,.slice b len cb] w fun e w'=>e=.returned (.bool true)∧w'=w:=by
 have c1:=ue h h0 ca;have c2:=ue h' h0 cb;clear h h';generalize strOfNums zs=s at c1 c2;go_enter Tryz.func31,Tryz.ntmps31;go_wp2;go_ret;simp
theorem vj (ea eb:Option Addr) (ec ed:Nat) (p q:PtrM) (evs:List EvM) (h:HartM) (w:World) (hp:RsR w ea p evs h) (hq:RsR w eb q evs h) (hb:RsB evs h) (h0:0<h.mem.length):
 Calls Tryz.prog 9 #[.agg (jA ea evs.length ec p h),.agg (jA eb evs.length ed q h)] w fun e w'=>e=.returned (.bool true)∧Below w.heap.size w w':=by
 have E0:Hid (∀u,Below w.heap.size w u->Calls Tryz.prog 30 #[.slice ea evs.length ec,.slice eb evs.length ed] u fun e w'=>e=.returned (.bool true)∧Below u.heap.size u w'):=fun u hu=>vh _ _ _ _ _ evs u (hp.ev.keep hu) (hq.ev.keep hu) rfl hb.e;have E1:Hid (∀u,Below w.heap.size w u->Calls Tryz.prog 31 #[.slice p.am h.mem.length p.cm,.slice q.am h.mem.length q.cm] u fun e w'=>e=.returned (.bool true)∧w'=u):=fun u hu=>xe _ _ _ _ _ h.mem u (hp.mem.keep hu) (hq.mem.keep hu) h0;have E2:Hid (∀u,Below w.heap.size w u->Calls Tryz.prog 32 #[.slice p.ar h.regs.length p.cr,.slice q.ar h.regs.length q.cr] u fun e w'=>e=.returned (.bool true)∧Below u.heap.size u w'):=fun u hu=>(yr _ _ _ _ _ h.regs u (hp.regs.keep hu) (hq.regs.keep hu) hb.r).mono (by
  rintro e w' ⟨rfl,n,rfl⟩;exact ⟨rfl,uE _ _⟩)
 clear hp hq hb;have F:=mT w (jA ea evs.length ec p h) (jA eb evs.length ed q h) 29 29;have A0:Hid ((jA ea evs.length ec p h)[0]?=some (.slice ea evs.length ec)):=by show _=_;rfl
 have B0:Hid ((jA eb evs.length ed q h)[0]?=some (.slice eb evs.length ed)):=by show _=_;rfl
 have A1:Hid ((jA ea evs.length ec p h)[1]?=some (.slice p.am h.mem.length p.cm)):=by show _=_;rfl
 have B1:Hid ((jA eb evs.length ed q h)[1]?=some (.slice q.am h.mem.length q.cm)):=by show _=_;rfl
 have A2:Hid ((jA ea evs.length ec p h)[2]?=some (.slice p.ar h.regs.length p.cr)):=by show _=_;rfl
 have B2:Hid ((jA eb evs.length ed q h)[2]?=some (.slice q.ar h.regs.length q.cr)):=by show _=_;rfl
 have A3:Hid ((jA ea evs.length ec p h)[3]?=some (VU h.pc)):=by show _=_;rfl
 have B3:Hid ((jA eb evs.length ed q h)[3]?=some (VU h.pc)):=by show _=_;rfl
 have A4:Hid ((jA ea evs.length ec p h)[4]?=some (VI h.mode)):=by show _=_;rfl
 have B4:Hid ((jA eb evs.length ed q h)[4]?=some (VI h.mode)):=by show _=_;rfl
 have A5:Hid ((jA ea evs.length ec p h)[5]?=some (.bool h.sum)):=by show _=_;rfl
 have B5:Hid ((jA eb evs.length ed q h)[5]?=some (.bool h.sum)):=by show _=_;rfl
 have A6:Hid ((jA ea evs.length ec p h)[6]?=some (.bool h.mxr)):=by show _=_;rfl
 have B6:Hid ((jA eb evs.length ed q h)[6]?=some (.bool h.mxr)):=by show _=_;rfl
 have A7:Hid ((jA ea evs.length ec p h)[7]?=some (VU h.satp)):=by show _=_;rfl
 have B7:Hid ((jA eb evs.length ed q h)[7]?=some (VU h.satp)):=by show _=_;rfl
 have A8:Hid ((jA ea evs.length ec p h)[8]?=some (VU h.epc)):=by show _=_;rfl
 have B8:Hid ((jA eb evs.length ed q h)[8]?=some (VU h.epc)):=by show _=_;rfl
 have A9:Hid ((jA ea evs.length ec p h)[9]?=some (VI h.emode)):=by show _=_;rfl
 have B9:Hid ((jA eb evs.length ed q h)[9]?=some (VI h.emode)):=by show _=_;rfl
 have A10:Hid ((jA ea evs.length ec p h)[10]?=some (VI h.cause)):=by show _=_;rfl
 have B10:Hid ((jA eb evs.length ed q h)[10]?=some (VI h.cause)):=by show _=_;rfl
 have A11:Hid ((jA ea evs.length ec p h)[11]?=some (VU h.tval)):=by show _=_;rfl
 have B11:Hid ((jA eb evs.length ed q h)[11]?=some (VU h.tval)):=by show _=_;rfl
 generalize jA ea evs.length ec p h=A at *;generalize jA eb evs.length ed q h=B at *;go_enter Tryz.func9,Tryz.ntmps9;go_upto_region 1 with fail;generalize (w.alloc (Obj.cells A 29)).alloc (Obj.cells B 29)=u0 at F |-;obtain ⟨f1,f2,hz,n0⟩:=F;have H1:Hid _:=f1;have H2:Hid _:=f2;clear f1 f2;have c0:=gX H1.out 0 A0.out;have d0:=gX H2.out 0 B0.out;go_wp2_with fail;refine (E0.out u0 n0).mono ?_;rintro e u1 ⟨rfl,m0⟩;have n1:=Below.step n0 m0 (Nat.le_refl _);replace H1:=gZ H1 m0;replace H2:=gZ H2 m0;clear c0 d0;have c1:=gX H1.out 1 A1.out;have d1:=gX H2.out 1 B1.out;have c2:=gX H1.out 2 A2.out;have d2:=gX H2.out 2 B2.out;go_wp2_with fail;refine (E1.out u1 n1).mono ?_;rintro e _ ⟨rfl,rfl⟩;go_wp2_with fail;refine (E2.out _ n1).mono ?_;rintro e u3 ⟨rfl,m2⟩;have n3:=Below.step n1 m2 (Nat.le_refl _);replace H1:=gZ H1 m2;replace H2:=gZ H2 m2;clear c1 d1 c2 d2;have c3:=gX H1.out 3 A3.out;have d3:=gX H2.out 3 B3.out;have c4:=gX H1.out 4 A4.out;have d4:=gX H2.out 4 B4.out;have c5:=gX H1.out 5 A5.out;have d5:=gX H2.out 5 B5.out;have c6:=gX H1.out 6 A6.out;have d6:=gX H2.out 6 B6.out;have c7:=gX H1.out 7 A7.out;have d7:=gX H2.out 7 B7.out;have c8:=gX H1.out 8 A8.out;have d8:=gX H2.out 8 B8.out;have c9:=gX H1.out 9 A9.out;have d9:=gX H2.out 9 B9.out;have c10:=gX H1.out 10 A10.out;have d10:=gX H2.out 10 B10.out;have c11:=gX H1.out 11 A11.out;have d11:=gX H2.out 11 B11.out;go_wp2;go_ret;exact ⟨rfl,n3⟩
theorem CL (v:World) (V:Array Value) (hs:V.size=12) (h1:V.all (·.oneCell')=true):
 ∃v',(Instr.storeAt 29 (PT v.heap.size 0) (.agg V)).run Tryz.prog (v.alloc (Obj.cells pT 29))=.ok () v'∧v'.heap[v.heap.size]?=some (.cells V 29 (0,0))∧v.heap.size<v'.heap.size∧Bw v v':=by
 have a:=iV v pT 29;refine ⟨_,iC (P:=Tryz.prog) (T:=29) a.1 (by rw [hs];exact uA) (by rw [hs];rfl) h1,fG a.1 (by rw [hs];rfl),?_,?_⟩
 ·rw [jw,a.2.1];exact Nat.lt_succ_self _
 ·exact dU (Nat.le_refl _) _ _ _ a.2.2
theorem yt {v:World} {g:Nat} {V:Array Value} (hs:V.size=12) (h:v.heap[g]?=some (.cells V 29 (0,0))):(Instr.loadAt 29 (PT g 0)).run Tryz.prog v=.ok (.agg V) v:=
 iA h Tryz.underlying29 rfl (by rw [hs];exact uA)
theorem ldp {v:World} {b i n m:Nat} {a:Option Addr} (h:v.cell? (AD b i)=some (.slice a n m)):(Instr.loadAt 38 (PT b i)).run Tryz.prog v=.ok (.slice a n m) v:=by go_simp
theorem ldu {v:World} {b i:Nat} {s:Int} (h:v.cell? (AD b i)=some (VU s)):(Instr.loadAt 27 (PT b i)).run Tryz.prog v=.ok (VU s) v:=by go_simp
theorem ldi {v:World} {b i:Nat} {s:Int} (h:v.cell? (AD b i)=some (VI s)):(Instr.loadAt 2 (PT b i)).run Tryz.prog v=.ok (VI s) v:=by go_simp
theorem ldb {v:World} {b i:Nat} {s:Bool} (h:v.cell? (AD b i)=some (.bool s)):(Instr.loadAt 4 (PT b i)).run Tryz.prog v=.ok (.bool s) v:=by go_simp
theorem lde {v:World} {b i n m:Nat} {a:Option Addr} (h:v.cell? (AD b i)=some (.slice a n m)):(Instr.loadAt 25 (PT b i)).run Tryz.prog v=.ok (.slice a n m) v:=by go_simp
end
section
attribute [local go_sem ↓] Go.wp_at_zero Go.wp_at_succ
structure StpS (plain:Bool) (ps:List Int) (evs:List EvM) (hh:HartM) (b:Nat) (v wr:World) (k:Nat) (q:PtrM) (h:HartM):Prop where
 n:Bw v wr
 box:wr.heap[b]?=some (.cells (bJ q h) 37 (0,0))
 hi:HartIn wr q h
 ok:HOk h
 run:kT plain (ps.drop k) h=(evs.drop k,hh)
theorem Ap {plain:Bool} {ps:List Int} {evs:List EvM} {h hh:HartM} {k:Nat} (hk:k<ps.length) (r:kT plain (ps.drop k) h=(evs.drop k,hh)):
 evs[k]?=some ⟨h.pc,h.mode,(jK plain ps[k] h).cause,(jK plain ps[k] h).tval⟩∧kT plain (ps.drop (k+1)) (jK plain ps[k] h).h=(evs.drop (k+1),hh):=by
 rw [List.drop_eq_getElem_cons hk,kT] at r;obtain ⟨r1,r2⟩:=Prod.mk.inj r;refine ⟨by rw [<-List.head?_drop,<-r1];rfl,?_⟩;have t1:evs.drop (k+1)=(evs.drop k).tail:=by rw [List.tail_drop]
 rw [t1,<-r1,<-r2];rfl
theorem HOk.len {h:HartM} (k:HOk h):h.mem.length<=1048576∧0<h.mem.length∧h.regs.length=8:=by
 have h1:=k.v.size;have h2:=k.v.regs;simp only [eA,decide_eq_true_eq] at h1;omega
theorem Aq (a0:Option Addr) (len0 cap0:Nat) (zs:List Int) (w:World) (hB:Byt w a0 len0 zs) (hlc:len0<=cap0) (hcm:cap0<=9223372036854775807):
 Calls Tryz.prog 3 #[.slice a0 len0 cap0] w fun e w'=>e=.returned (.bool true)∧Bw w w':=by
 by_cases hlen:len0<=1048576
 ·have CD:=Bt a0 len0 cap0 zs w hB hlen;go_enter Tryz.func3,Tryz.ntmps3;go_wp2_with fail;refine CD.mono ?_;rintro e v1 ⟨g,nn,cp,bs,plain,rfl,hb,hn,hc,n1⟩;clear CD hB hlen hlc hcm;have HBD:=hid hb.2.1;have hok:=wN HBD.out;have pl:=wK bs;have CS:=yN (some (AD g 0)) nn cp bs plain v1 hb (by omega);have CI:=hid fun (u:World) (hu:Bw v1 u)=>yx (some (AD g 0)) nn cp bs plain u (hb.keep hu) (by omega);have CE:Hid (∀u,Bw v1 u->Calls Tryz.prog 6 #[SL g nn cp] u fun e v=>(∃p pa pc,e=.returned (.agg (eE p pa pc (iY bs) (jk bs)))∧HartIn v p (iY bs)∧v.ownsRow u.heap.size 2 1 (.slice pa (jk bs).length pc) (jk bs).length (dB (jk bs)))∧Bw u v):=fun u hu=>(pO (some (AD g 0)) nn cp bs u (hb.keep hu) (by omega)).mono fun e v d=>by
   obtain ⟨⟨p,pa,pc,he,o⟩,n⟩:=d.own;exact ⟨⟨p,pa,pc,he,o.hart.hin hok.mem hok.ks,o.pick⟩,n⟩
  obtain ⟨ml,el,rk⟩:=Cm plain (jk bs) (iY bs) hok (rM HBD.out);have PB:=hid (rM HBD.out);have hsz:=rk.len;have HBM:=hid rk.mem;have H0:=hid hok;have RUN:Hid (kT plain (jk bs) (iY bs)=((kT plain (jk bs) (iY bs)).1,(kT plain (jk bs) (iY bs)).2)):=by show _=_;rfl
  generalize (kT plain (jk bs) (iY bs)).1=evs at *;generalize (kT plain (jk bs) (iY bs)).2=hh at *;generalize iY bs=h0 at *;generalize jk bs=ps at *;have hbb:RsB evs hh:=⟨by omega,by omega,by omega⟩;clear hok rk HBD hb;go_wp2_with fail;refine CS.mono ?_;rintro e v2 ⟨⟨ea,ec,q,rfl,h2,h3⟩,n2⟩;obtain ⟨v3,hs3,P3,l3,n3⟩:=CL v2 (jA ea evs.length ec q hh) rfl (yQ _ _ _ _ _);have R3:Hid (RsR v3 ea q evs hh):=RsR.keep ⟨h2,h3.mem,h3.regs⟩ n3;have A0:Hid ((jA ea evs.length ec q hh)[0]?=some (.slice ea ps.length ec)):=by rw [<-el];show _=_;rfl
  have SG:(jA ea evs.length ec q hh).size=12:=rfl;have EG:Hid (∀(u:World) (eb:Option Addr) (ed:Nat) (p:PtrM),RsR u eb p evs hh->RsR u ea q evs hh->Calls Tryz.prog 9 #[.agg (jA eb evs.length ed p hh),.agg (jA ea evs.length ec q hh)] u fun e w'=>e=.returned (.bool true)∧Bw u w'):=fun u eb ed p k1 k2=>vj eb ea ed ec p q evs hh u k1 k2 hbb (by omega);generalize jA ea evs.length ec q hh=G at *;have HS3:=hid hs3;have Q3:=hid P3;have n13:=bst n2 n3;clear hs3 P3 h2 h3 n2 n3 CS;go_upto_region 5 with (first | ((with_reducible refine it ?_ ?_ HS3.out ?_);(exact rfl);(exact rfl)));clear HS3;have c0:=gX Q3.out 0 A0.out;by_cases hbig:ps.length<=300
  ·go_wp2_with fail;refine (CE.out v3 n13).mono ?_;rintro e v4 ⟨⟨p,pa,pc,rfl,hi,op⟩,n4⟩;obtain ⟨v5,hs5,P5,l5,n5⟩:=uf v4 (eE p pa pc h0 ps) rfl (mW _ _ _ _ _);have SH:=hid (uB p pa pc h0 ps);have SP:=hid (uC p pa pc h0 ps);generalize eE p pa pc h0 ps=S at *;have n45:=bst n4 n5;have Q5:=gZ Q3 n45;have R5:=hid (R3.out.keep n45);have S5:=hid P5;have HI5:=hid (hi.keep n5);have OP5:=hid (ab op n5);have HS5:=hid hs5;have n15:=bst n13 n45;clear hs5 P5 hi op n4 n5 n45 n13 Q3 R3 c0 CE;go_upto_region 8 with (first | ((with_reducible refine it ?_ ?_ HS5.out ?_);(exact rfl);(exact rfl)));clear HS5;have c0:=gX Q5.out 0 A0.out;have c21:=gX S5.out 21 SP.out;have l52:v2.heap.size<v5.heap.size:=hpl Q5.out;have l54:v4.heap.size<v5.heap.size:=hpl S5.out;go_upto_region 10 with fail;clear c0 c21;have HLh:Hid _:=jB (P:=Tryz.prog) (T:=37) S5.out Tryz.underlying37 rfl (o:=0) (bJ p h0).toList kq SH.out rfl;rw [show (bJ p h0).toList.toArray=bJ p h0 from rfl] at HLh;obtain ⟨v6,hs6,P6,l6,n6⟩:=wh v5 (bJ p h0) rfl (kZ _ _);have K6:Hid (StpS plain ps evs hh v5.heap.size v5 v6 0 p h0):=⟨n6,P6,HI5.out.keep n6,H0.out,by rw [List.drop_zero,List.drop_zero];exact RUN.out⟩;have HS6:=hid hs6;clear hs6 P6 HI5 H0 RUN n6 SH;generalize bJ p h0=AH0 at HLh HS6;go_upto_region 11 with (first | ((with_reducible refine iE ?_ HLh.out ?_);(exact rfl)) | ((with_reducible refine it ?_ ?_ HS6.out ?_);(exact rfl);(exact rfl)));clear HLh HS6;go_wp2;go_loopw [8] (fun ii wr=>∃(k:Nat) (q':PtrM) (h:HartM),k<=ps.length∧ii=VI k∧StpS plain ps evs hh v5.heap.size v5 wr k q' h) (fun ii _=>ps.length-(intOf ii).toNat)
   case atStart=>exact ⟨0,p,h0,Nat.zero_le _,rfl,K6.out⟩
   case round=>
   obtain ⟨k,q',h,hk,rfl,kk⟩:=hrel;have HK:=hid kk;have nw:=kk.n;clear K6 kk;have W5:=gZ S5 nw;have WQ:=gZ Q5 nw;have lw7:v5.heap.size<wr.heap.size:=hpl HK.out.box;have c21:=gX W5.out 21 SP.out;have lw4:v4.heap.size<wr.heap.size:=hpl W5.out;have lw2:v2.heap.size<wr.heap.size:=hpl WQ.out;by_cases hlt:k<ps.length
   ·have hlt':decide ((k:Int)<(ps.length:Int))=true:=by simp;omega
    obtain ⟨hev,hnx⟩:=Ap hlt HK.out.run;obtain ⟨y,hy⟩:∃y,ps[k]=y:=⟨_,rfl⟩;rw [hy] at hev hnx;have by':0<=y∧y<=255:=by rw [<-hy];exact PB.out _ (List.getElem_mem hlt)
    have pki:(dB ps)[k]?=some (VI y):=by
     rw [<-hy];simp [dB,geg hlt]
    obtain ⟨pg,hpg⟩:=dC OP5.out (by omega);subst hpg;have HLy:Hid (∀u,Bw wr u->(Instr.loadAt 2 (PT pg k)).run Tryz.prog u=.ok (VI y) u):=fun u hu=>by
     have ho:=ab OP5.out (bst nw hu);have h1:=il ho k _ pki;exact ldi (by simpa using h1)
    have HST:=hid fun (u:World) (hu:Bw wr u)=>yw q' h plain y u (HK.out.hi.keep hu) HK.out.ok.len.1 HK.out.ok by';have HXK:=hid (fm plain by' HK.out.ok).h;have HPC:=hid (show (bJ q' h)[2]?=some (VU h.pc) from rfl);have HMO:=hid (show (bJ q' h)[3]?=some (VI h.mode) from rfl);have HAs:(bJ q' h).size=21:=rfl;generalize jK plain y h=X at *;have HEV:=hid hev;have HNX:=hid hnx;have HB7:=hid HK.out.box;clear hev hnx hy pki HK;generalize bJ q' h=AH at *;go_upto_region 14 with fail;clear c21;have HLa:=hid fun u (hu:Bw wr u)=>wi HAs (gZ HB7 hu).out;have HLs:=hid fun u (hu:Bw wr u)=>ldp (gX (gZ W5 hu).out 21 SP.out);have hF:=bdr wr;refine ip (Bw wr) 9 ?_;refine ic 0 44 _ rfl hF ?_ (hy:=fun u hu=>iw rfl (HLa.out u hu));refine ic 1 45 (.bool plain) rfl hF ?_;refine ic 2 46 (PT v4.heap.size 21) rfl hF ?_
    go_frame
    refine ic 3 47 _ rfl hF ?_ (hy:=fun u hu=>iw rfl (HLs.out u hu));refine ic 4 48 (VI (k:Int)) rfl hF ?_
    go_frame
    refine ic 5 49 (PT pg k) rfl hF ?_ (hy:=fun u hu=>by have h1:=hlt;go_simp)
    go_frame
    refine ic 6 50 _ rfl hF ?_ (hy:=fun u hu=>iw rfl (HLy.out u hu))
    go_frame
    refine DY 7 8 51 9 (Z:=Cr) (T:=43) (fun u z v=>∃q2,z=.agg (tn true X.cause X.tval q2 X.h)∧yu u.heap.size v q2 X.h) rfl rfl rfl (fun u hu=>bst hF hu) (fun u hu=>(HST.out u (bst hF hu)).mono fun e w' ⟨⟨q2,h1,h2⟩,n⟩=>⟨⟨_,h1,q2,rfl,h2⟩,n⟩) ?_;rintro _ pb u v7 v8 hu ⟨q2,rfl,ho⟩ hb8 hpu hpb hz hn8
    go_frame
    have n8:=bst hF hn8;replace hpb:wr.heap.size<=pb:=hpb;have lu:wr.heap.size<=u.heap.size:=(bst hF hu).size;have RS:(tn true X.cause X.tval q2 X.h).size=24:=rfl;have RO:=Aw true X.cause X.tval q2 X.h;have R0:=hid (show (tn true X.cause X.tval q2 X.h)[0]?=some (.bool true) from rfl);have R1:=hid (show (tn true X.cause X.tval q2 X.h)[1]?=some (VI X.cause) from rfl);have R2:=hid (show (tn true X.cause X.tval q2 X.h)[2]?=some (VU X.tval) from rfl);have RH:=hid (show ((tn true X.cause X.tval q2 X.h).toList.drop 3).take 21=(bJ q2 X.h).toList from rfl);generalize tn true X.cause X.tval q2 X.h=RR at *;have HS9:=hid (iC (P:=Tryz.prog) (T:=43) (V:=RR) hz (by rw [RS];exact ET) (by rw [RS];rfl) RO);have e9:=hid (fG (V:=RR) hz (by rw [RS];rfl));have gS:=iq pb RR.toList 0 v8 _ (aM _ _);have n9:Bw wr _:=dU hpb RR.toList 0 _ n8;have O9:Hid (yu wr.heap.size (v8.setCells pb 0 RR.toList) q2 X.h):=by
     show yu _ _ _ _;refine HartO.lower (base:=u.heap.size) ?_ lu;rcases hpu with h9 | h9
     ·exact (HartO.keep ho hb8).gb gS h9
     ·exact HartO.keep ho (dU h9 RR.toList 0 _ hb8)
    refine fe 9 9 51 rfl HS9.out ?_;refine dQ ?_;generalize v8.setCells pb 0 RR.toList=v9 at e9 n9 O9 |-;clear gS HS9 hu ho hb8 hpu hz hn8 n8 lu RS RO HST HLa HLs HLy hF;have lp9:pb<v9.heap.size:=hpl e9.out;have HI9:=hid (O9.out.hin HXK.out.mem HXK.out.ks);have CV:Hid (∀u,Bw v9 u->Calls Tryz.prog 8 #[.agg (bJ q2 X.h)] u fun e w'=>e=.returned (.bool true)∧Bw u w'):=fun u hu=>by
     have:=rU q2 X.h u (HI9.out.keep hu) HXK.out.len.1 HXK.out.satp.1 HXK.out.satp.2 HXK.out.tvec.1;rw [HXK.out.valid] at this;exact this
    have HLR:Hid (∀u,Bw v9 u->(Instr.loadAt 37 (PT pb 3)).run Tryz.prog u=.ok (.agg (bJ q2 X.h)) u):=fun u hu=>jB (P:=Tryz.prog) (T:=37) (gZ e9 hu).out Tryz.underlying37 rfl (o:=3) (bJ q2 X.h).toList kq RH.out rfl;have HLz:=hid fun u (hu:Bw v9 u)=>ldb (gX (gZ e9 hu).out 0 R0.out);have HLc:=hid fun u (hu:Bw v9 u)=>ldi (gX (gZ e9 hu).out 1 R1.out);have HLt:=hid fun u (hu:Bw v9 u)=>ldu (gX (gZ e9 hu).out 2 R2.out);have WB:=gZ HB7 n9;have HLp:=hid fun u (hu:Bw v9 u)=>ldu (gX (gZ WB hu).out 2 HPC.out);have HLm:=hid fun u (hu:Bw v9 u)=>ldi (gX (gZ WB hu).out 3 HMO.out);have WE:=gZ WQ n9;have HLv:=hid fun u (hu:Bw v9 u)=>lde (gX (gZ WE hu).out 0 A0.out);have HRE:=hid fun u (hu:Bw v9 u)=>(R5.out.keep (bst nw (bst n9 hu))).ev;obtain ⟨eb,eo,hea⟩:∃eb eo,ea=some (AD eb eo):=by
     rcases (HRE.out v9 brf).2 with h | ⟨b1,o1,h,_,_⟩
     ·omega
     ·exact ⟨b1,o1,h⟩
    subst hea;have HLe:Hid (∀u,Bw v9 u->(Instr.loadAt 47 (PT eb (eo+k*4))).run Tryz.prog u=.ok (.agg #[VU h.pc,VI h.mode,VI X.cause,VU X.tval]) u):=fun u hu=>
     run_loadAt_mid u eb (eo+k*4) 47 [VU h.pc,VI h.mode,VI X.cause,VU X.tval] _ (fun j v hv=>by
      have:=xJ (HRE.out u hu) rfl k _ HEV.out j v (by have:=(List.getElem?_eq_some_iff.1 hv).1;simpa using this) hv;rw [Nat.add_assoc];exact this) Tryz.underlying47 rfl (by kernel_rfl)
    have HAx:(bJ q2 X.h).size=21:=rfl;have HAo:=hid (kZ q2 X.h);have K9:Hid (∀u:World,Bw v5 u->u.heap[v5.heap.size]?=some (.cells (bJ q2 X.h) 37 (0,0))->HartIn u q2 X.h->StpS plain ps evs hh v5.heap.size v5 u (k+1) q2 X.h):=fun u h1 h2 h3=>⟨h1,h2,h3,HXK.out,HNX.out⟩;clear RH R0 R1 R2 HRE HNX HEV;generalize bJ q2 X.h=AX at *;go_upto_region 15 with fail;have hF:=bdr v9;refine ip (Bw v9) 25 ?_;refine ic 0 52 (PT pb 0) rfl hF ?_
    go_frame
    refine ic 1 53 _ rfl hF ?_ (hy:=fun u hu=>iw rfl (HLz.out u hu));refine ic 2 54 (.bool false) rfl hF ?_;refine ic 3 55 (.bool false) rfl hF ?_;refine ic 4 56 (PT pb 3) rfl hF ?_
    go_frame
    refine ic 5 57 _ rfl hF ?_ (hy:=fun u hu=>iw rfl (HLR.out u hu))
    go_frame
    refine jD 6 58 rfl ((CV.out _ hF).mono ?_);rintro e va ⟨rfl,na⟩;have ba:=bst hF na;refine ⟨_,rfl,fun _=>ba,?_⟩
    go_frame
    refine ic 7 59 (.bool false) rfl ba ?_;refine ic 8 60 (.bool false) rfl ba ?_;refine ic 9 61 (.bool false) rfl ba ?_;refine ic 10 62 (PT v2.heap.size 0) rfl ba ?_
    go_frame
    refine ic 11 63 _ rfl ba ?_ (hy:=fun u hu=>iw rfl (HLv.out u hu));refine ic 12 64 (VI (k:Int)) rfl ba ?_
    go_frame
    refine ic 13 65 (PT eb (eo+k*4)) rfl ba ?_ (hy:=fun u hu=>by have h1:=hlt;go_simp)
    go_frame
    refine ic 14 66 _ rfl ba ?_ (hy:=fun u hu=>iw rfl (HLe.out u hu));refine ic 15 67 (PT v5.heap.size 2) rfl ba ?_
    go_frame
    refine ic 16 68 _ rfl ba ?_ (hy:=fun u hu=>iw rfl (HLp.out u hu));refine ic 17 69 (PT v5.heap.size 3) rfl ba ?_
    go_frame
    refine ic 18 70 _ rfl ba ?_ (hy:=fun u hu=>iw rfl (HLm.out u hu));refine ic 19 71 (PT pb 1) rfl ba ?_
    go_frame
    refine ic 20 72 _ rfl ba ?_ (hy:=fun u hu=>iw rfl (HLc.out u hu));refine ic 21 73 (PT pb 2) rfl ba ?_
    go_frame
    refine ic 22 74 _ rfl ba ?_ (hy:=fun u hu=>iw rfl (HLt.out u hu))
    go_frame
    refine ic 23 75 (.agg #[VU h.pc,VI h.mode,VI X.cause,VU X.tval]) rfl ba ?_
    go_frame
    refine ic 24 76 (.bool false) rfl ba ?_ (hy:=fun u hu=>by go_simp);refine wn 25 rfl ?_
    go_frame
    have Wa:=gZ WB ba;have HSa:=hid (iC (P:=Tryz.prog) (T:=37) (V:=AX) Wa.out (by rw [HAx];exact kq) (by rw [HAx,HAs]) HAo.out);have ea':=hid (fG (V:=AX) Wa.out (by rw [HAx,HAs]));have HRa:=hid (HLR.out va ba);have gA:=iq v5.heap.size AX.toList 0 va _ (aM _ _);have nA:Bw v5 _:=dU nle AX.toList 0 _ (bst nw (bst n9 ba));have IA:=hid ((HartO.gb (HartO.keep O9.out ba) gA lw7).hin HXK.out.mem HXK.out.ks);clear HLz HLc HLt HLp HLm HLv HLe HLR CV Wa gA;go_wp2_with (first | ((with_reducible refine iE ?_ HRa.out ?_);(exact rfl)) | ((with_reducible refine it ?_ ?_ HSa.out ?_);(exact rfl);(exact rfl)));go_roundw
    case rel=>exact ⟨k+1,q2,X.h,by omega,by go_num,K9.out _ nA ea'.out IA.out⟩
    case measure=>simp [intOf];omega
   ·have hin:k=ps.length:=by omega
    subst hin;have hlt':decide ((ps.length:Int)<(ps.length:Int))=false:=by simp
    have hfin:h=hh:=by
     have r:=HK.out.run;rw [List.drop_length,kT] at r;exact (Prod.mk.inj r).2
    subst hfin;have HB:=hid HK.out.box;have HI:=hid HK.out.hi;have d0:=gX HB.out 0 (v:=.slice q'.am h.mem.length q'.cm) rfl;have d1:=gX HB.out 1 (v:=.slice q'.ar h.regs.length q'.cr) rfl;have d2:=gX HB.out 2 (v:=VU h.pc) rfl;have d3:=gX HB.out 3 (v:=VI h.mode) rfl;have d4:=gX HB.out 4 (v:=.bool h.sum) rfl;have d5:=gX HB.out 5 (v:=.bool h.mxr) rfl;have d6:=gX HB.out 6 (v:=VU h.satp) rfl;have d8:=gX HB.out 8 (v:=VU h.epc) rfl;have d9:=gX HB.out 9 (v:=VI h.emode) rfl;have d10:=gX HB.out 10 (v:=VI h.cause) rfl;have d11:=gX HB.out 11 (v:=VU h.tval) rfl;have c0:=gX WQ.out 0 A0.out;obtain ⟨vE,EvE,nE,QE,lE⟩:=al1 wr #[.slice ea ps.length ec,.slice q'.am h0.mem.length q'.cm,.slice q'.ar 8 q'.cr,VU h.pc,VI h.mode,.bool h.sum,.bool h.mxr,VU h.satp,VU h.epc,VI h.emode,VI h.cause,VU h.tval] 29;have EA:jA ea evs.length ec q' h=#[.slice ea ps.length ec,.slice q'.am h0.mem.length q'.cm,.slice q'.ar 8 q'.cr,VU h.pc,VI h.mode,.bool h.sum,.bool h.mxr,VU h.satp,VU h.epc,VI h.emode,VI h.cause,VU h.tval]:=by unfold jA;rw [el,ml,hsz.2.2]
    rw [<-EA] at QE;clear EA;have RE:Hid (RsR vE ea q' evs h):=RsR.keep ⟨(R5.out.keep nw).ev,HI.out.mem,HI.out.regs⟩ nE;have RW:Hid (RsR vE ea q evs h):=R5.out.keep (bst nw nE);have WE:=gZ WQ nE;have nwE:=bst nw nE;clear HK HI HB W5;go_upto_region 19 with fail;rw [EvE.out];clear d0 d1 d2 d3 d4 d5 d6 d8 d9 d10 d11 c0 c21 EvE;have HLe:=hid fun u (hu:Bw vE u)=>yt (V:=jA ea evs.length ec q' h) rfl (gZ QE hu).out;have HLg:=hid fun u (hu:Bw vE u)=>yt SG (gZ WE hu).out;have E1:=hid fun u (hu:Bw vE u)=>EG.out u ea ec q' (RE.out.keep hu) (RW.out.keep hu);generalize jA ea evs.length ec q' h=GE at HLe E1;have hF:=bdr vE;refine ip (Bw vE) 10 ?_;refine ic 0 105 _ rfl hF ?_ (hy:=fun u hu=>iw rfl (HLe.out u hu));refine ic 1 106 _ rfl hF ?_ (hy:=fun u hu=>iw rfl (HLg.out u hu))
    go_frame
    refine jD 2 107 rfl ((E1.out _ hF).mono ?_);rintro e va ⟨rfl,na⟩;have ba:=bst hF na;refine ⟨_,rfl,fun _=>ba,?_⟩
    go_frame
    refine ic 3 108 (.bool true) rfl ba ?_;refine ic 4 109 (SL g nn cp) rfl ba ?_;refine ic 5 110 (.bool plain) rfl ba ?_
    go_frame
    refine ic 7 112 _ rfl ba ?_ (hy:=fun u hu=>iw rfl (HLg.out u hu))
    go_frame
    refine jD 6 111 rfl ((CI.out _ (bst n15 (bst nwE ba))).mono ?_);rintro e vb ⟨⟨ge,ed,q3,rfl,o3⟩,nb⟩;have bb:=bst ba nb;have R3:=RsO.read o3 HBM.out;refine ⟨_,rfl,fun _=>bb,?_⟩
    go_frame
    refine jD 8 113 rfl ((EG.out vb _ ed q3 R3 (RW.out.keep bb)).mono ?_);rintro e vc ⟨rfl,nc⟩;have bc:=bst bb nc;refine ⟨_,rfl,fun _=>bc,?_⟩
    go_frame
    refine ic 9 114 (.bool true) rfl bc ?_
    go_frame
    refine wn 10 rfl ?_;go_wp2;go_ret;exact ⟨rfl,bst n1 (bst n15 (bst nwE bc))⟩
  ·have hb2:decide ((300:Int)<(ps.length:Int))=true:=by simp;omega
   go_wp2;go_ret;exact ⟨rfl,bst n1 n13⟩
 ·go_enter Tryz.func3,Tryz.ntmps3;go_wp2;go_ret;exact ⟨rfl,brf⟩
end
end Go.Proofs.YtjdmhibnhpdjaaaGreat
