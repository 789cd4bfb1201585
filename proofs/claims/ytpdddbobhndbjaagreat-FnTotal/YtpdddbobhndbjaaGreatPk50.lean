import Derived.Test.YtpdddbobhndbjaaGreatPk49
namespace Go.Proofs.YtpdddbobhndbjaaGreat
open Go.RowKit
set_option linter.unusedVariables false
set_option maxHeartbeats 6400000
set_option maxRecDepth 20000
theorem Dx:(Tryz.prog.info? 79).map (·.size)=some 2:=by kernel_rfl
section
attribute [local go_sem ↓] Go.wp_at_zero Go.wp_at_succ
theorem yR:∀(es:List EvM) (i j:Nat) (hi:i<es.length),j<4->(gU es)[i*4+j]?=(evC es[i])[j]?
 | e::r,0,j,hi,hj=>by
  simp only [gU,List.getElem_cons_zero,Nat.zero_mul,Nat.zero_add];rw [List.getElem?_append_left (by simp [evC];exact hj)]
 | e::r,i+1,j,hi,hj=>by
  simp only [gU,List.getElem_cons_succ];rw [List.getElem?_append_right (by simp [evC];omega)];have:(i+1)*4+j-(evC e).length=i*4+j:=by simp [evC];omega
  rw [this];exact yR r i j (by simpa using hi) hj
theorem qM {w:World} {b off n:Nat} {es:List EvM} (h:RowC w (some ⟨b,off,none⟩) n 4 (gU es)) (hn:es.length=n) (k:Nat) (x:EvM) (hx:es[k]?=some x) (j:Nat) (v:Value) (hj:j<4) (hv:(evC x)[j]?=some v):
 w.cell? ⟨b,off+(k*4+j),none⟩=some v:=by
 have hk:=(List.getElem?_eq_some_iff.1 hx).1;rcases h.2 with h0 | ⟨b',off',e,_,hc⟩
 ·omega
 ·simp at e;obtain ⟨rfl,rfl⟩:=e;refine hc _ _ ?_;rw [yR es k j hk hj];rw [List.getElem?_eq_getElem hk] at hx;simp at hx;rw [hx];exact hv
theorem uJ (p m c t:Int) (w:World):
 Calls Tryz.prog 56 #[.agg #[.int .u64 p,.int .i64 m,.int .i64 c,.int .u64 t],.agg #[.int .u64 p,.int .i64 m,.int .i64 c,.int .u64 t]] w fun e w'=>e=.returned (.bool true)∧Bw w w':=by
 go_enter Tryz.func56,Tryz.ntmps56;go_wp2_with fail;go_ret;exact ⟨rfl,((Below.refl _ _).alloc nle _).alloc (by simp) _⟩
theorem te (a b:Option Addr) (n ca cb:Nat) (es:List EvM) (w:World) (h:RowC w a n 4 (gU es)) (h':RowC w b n 4 (gU es)) (hn:es.length=n) (hl:n<=1048576):
 Calls Tryz.prog 20 #[.slice a n ca,.slice b n cb] w fun e w'=>e=.returned (.bool true)∧Bw w w':=by
 have HR:=hid h;have HR':=hid h';clear h h';go_enter Tryz.func20,Tryz.ntmps20;go_wp2_with fail;go_loopw [5] (fun i wr=>∃(k:Nat),k<=n∧i=.int .i64 k∧Bw w wr) (fun i _=>n-(intOf i).toNat)
 case atStart=>exact ⟨0,Nat.zero_le _,rfl,Below.refl _ _⟩
 case round=>
  obtain ⟨k,hk,rfl,hb⟩:=hrel;by_cases hlt:k<n
  ·obtain ⟨x,hx⟩:∃x:EvM,es[k]?=some x:=⟨_,List.getElem?_eq_getElem (by omega)⟩;have R1:=RowC.keep HR.out hb;have R2:=RowC.keep HR'.out hb;obtain ⟨b1,o1,rfl,lb1⟩:∃b1 o1,a=some ⟨b1,o1,none⟩∧b1<wr.heap.size:=by
    rcases R1.2 with h | ⟨b1,o1,h,h2,_⟩
    ·omega
    ·exact ⟨b1,o1,h,h2⟩
   obtain ⟨b2,o2,rfl,lb2⟩:∃b2 o2,b=some ⟨b2,o2,none⟩∧b2<wr.heap.size:=by
    rcases R2.2 with h | ⟨b2,o2,h,h2,_⟩
    ·omega
    ·exact ⟨b2,o2,h,h2⟩
   obtain ⟨vp,vm,vc,vt⟩:=x;have C1:=fun j u hj hu=>aD (qM R1 hn k _ hx j u hj hu) lb1;have C2:=fun j u hj hu=>aD (qM R2 hn k _ hx j u hj hu) lb2;have g0:∀u:Lies wr,u.w.cell? ⟨b1,o1+k*4,none⟩=some (.int .u64 vp):=C1 0 _ (by omega) rfl;have g1:∀u:Lies wr,u.w.cell? ⟨b1,o1+k*4+1,none⟩=some (.int .i64 vm):=C1 1 _ (by omega) rfl;have g2:∀u:Lies wr,u.w.cell? ⟨b1,o1+k*4+2,none⟩=some (.int .i64 vc):=C1 2 _ (by omega) rfl;have g3:∀u:Lies wr,u.w.cell? ⟨b1,o1+k*4+3,none⟩=some (.int .u64 vt):=C1 3 _ (by omega) rfl;have f0:∀u:Lies wr,u.w.cell? ⟨b2,o2+k*4,none⟩=some (.int .u64 vp):=C2 0 _ (by omega) rfl;have f1:∀u:Lies wr,u.w.cell? ⟨b2,o2+k*4+1,none⟩=some (.int .i64 vm):=C2 1 _ (by omega) rfl;have f2:∀u:Lies wr,u.w.cell? ⟨b2,o2+k*4+2,none⟩=some (.int .i64 vc):=C2 2 _ (by omega) rfl;have f3:∀u:Lies wr,u.w.cell? ⟨b2,o2+k*4+3,none⟩=some (.int .u64 vt):=C2 3 _ (by omega) rfl;have ne:=db wr;clear C1 C2 R1 R2 hx;go_wp2_with fail;refine bD (by kernel_rfl) (by kernel_rfl) ?_;repeat (go_big_quiet_step ((go_at_call 56;exact cH _ (uJ _ _ _ _ _))))
   refine wpQuiet_nil ?_;rintro _ ⟨u,rfl⟩;have hb2:=bst hb u.h;generalize u.w=v2 at hb2 |-;clear g0 g1 g2 g3 f0 f1 f2 f3 hb;go_wp2_with fail;go_roundw
   case rel=>exact ⟨k+1,by omega,by go_num,hb2⟩
   case measure=>simp [intOf];omega
  ·have hkl:k=n:=by omega
   subst hkl;go_wp2_with fail;go_ret;exact ⟨rfl,hb⟩
def jT (k0:Int) (t:Nat):Value:=match t%4 with
 | 1=>.int .i64 (k0+t)
 | 2=>.int .i64 (k0+t)
 | _=>.int .u64 (k0+t)
def jd (k0:Int) (m:Nat):List Value:=(List.range m).map (jT k0)
theorem lA (k0:Int) (m t:Nat) (h:t<m):(jd k0 m)[t]?=some (jT k0 t):=by
 simp [jd,h]
theorem Bp (k0:Int) (j:Nat):jT k0 (j*4)=(.int .u64 (k0+j*4)):=by
 unfold jT;rw [show (j*4)%4=0 by omega];simp only
 push_cast
 congr 1 <;> (first | (congr 2;omega) | omega)
theorem Bq (k0:Int) (j:Nat):jT k0 (j*4+1)=(.int .i64 (k0+j*4+1)):=by
 unfold jT;rw [show (j*4+1)%4=1 by omega];simp only
 push_cast
 congr 1 <;> (first | (congr 2;omega) | omega)
theorem Br (k0:Int) (j:Nat):jT k0 (j*4+2)=(.int .i64 (k0+j*4+1+1)):=by
 unfold jT;rw [show (j*4+2)%4=2 by omega];simp only
 push_cast
 congr 1 <;> (first | (congr 2;omega) | omega)
theorem Bt (k0:Int) (j:Nat):jT k0 (j*4+3)=(.int .u64 (k0+j*4+1+1+1)):=by
 unfold jT;rw [show (j*4+3)%4=3 by omega];simp only
 push_cast
 congr 1 <;> (first | (congr 2;omega) | omega)
theorem yi (k0:Int) (j m:Nat) (ys:List Value) (hy:ys.length=m) (hi:j*4+3<m) (h:∀t,t<j*4->ys[t]?=some (jT k0 t)):
 ∀t,t<(j+1)*4->((((ys.set (j*4) (.int .u64 (k0+j*4))).set (j*4+1) (.int .i64 (k0+j*4+1))).set (j*4+2) (.int .i64 (k0+j*4+1+1))).set (j*4+3) (.int .u64 (k0+j*4+1+1+1)))[t]?=some (jT k0 t):=by
 intro t ht;by_cases h0:t<j*4
 ·rw [List.getElem?_set_ne (by omega),List.getElem?_set_ne (by omega),List.getElem?_set_ne (by omega),List.getElem?_set_ne (by omega)];exact h t h0
 ·rcases (show t=j*4∨t=j*4+1∨t=j*4+2∨t=j*4+3 by omega) with rfl | rfl | rfl | rfl
  ·rw [List.getElem?_set_ne (by omega),List.getElem?_set_ne (by omega),List.getElem?_set_ne (by omega),List.getElem?_set_self (by omega),Bp]
  ·rw [List.getElem?_set_ne (by omega),List.getElem?_set_ne (by omega),List.getElem?_set_self (by simp;omega),Bq]
  ·rw [List.getElem?_set_ne (by omega),List.getElem?_set_self (by simp;omega),Br]
  ·rw [List.getElem?_set_self (by simp;omega),Bt]
theorem sC (base g n cap:Nat) (cs:List Value) (k0:Int) (w:World) (h:w.ownsRow base 54 4 (.slice (some ⟨g,0,none⟩) n cap) n cs) (hl:n<=1048576) (hk0:0<=k0) (hk1:k0<=1073741824):
 Calls Tryz.prog 22 #[.slice (some ⟨g,0,none⟩) n cap,.int .i64 k0] w fun e w'=>
  e=.returned (.int .i64 (k0+n*4))∧w'.ownsRow base 54 4 (.slice (some ⟨g,0,none⟩) n cap) n (jd k0 (n*4))∧w.grownBy w' (some g):=by
 have HI:Hid _:=h;clear h;go_enter Tryz.func22,Tryz.ntmps22;go_wp2_with fail;go_loopw [1,5] (fun kk i wr=>∃(j:Nat) (ys:List Value),j<=n∧kk=.int .i64 (k0+j*4)∧i=.int .i64 j∧(∀t,t<j*4->ys[t]?=some (jT k0 t))∧wr.ownsRow base 54 4 (.slice (some ⟨g,0,none⟩) n cap) n ys∧w.grownBy wr (some g)) (fun _ i _=>n-(intOf i).toNat)
 case atStart=>exact ⟨0,cs,Nat.zero_le _,by simp,rfl,fun t ht=>absurd ht (by omega),HI.out,aq _ _⟩
 case round=>
  clear HI;obtain ⟨j,ys,hj,rfl,rfl,hyz,hb,hn⟩:=hrel;have hy:=hb.1;by_cases hlt:j<n
  ·have y0:=aB hb (j*4) _ (List.getElem?_eq_getElem (by omega));have y1:=aB hb (j*4+1) _ (List.getElem?_eq_getElem (by omega));have y2:=aB hb (j*4+2) _ (List.getElem?_eq_getElem (by omega));have y3:=aB hb (j*4+3) _ (List.getElem?_eq_getElem (by omega));generalize ys[j*4]'_=z0 at y0;generalize ys[j*4+1]'_=z1 at y1;generalize ys[j*4+2]'_=z2 at y2;generalize ys[j*4+3]'_=z3 at y3;have r0:=aO hb (j*4);have r1:=aO hb (j*4+1);have r2:=aO hb (j*4+2);have r3:=aO hb (j*4+3);have HZ:=hid hyz;have HB:=hid hb;clear hyz hb;go_wp2_with fail;go_roundw
   case rel=>exact ⟨j+1,_,by omega,by go_num,by go_num,yi k0 j (n*4) ys hy (by omega) HZ.out,(aF (aF (aF (aF HB.out _ _) _ _) _ _) _ _),(ak (ak (ak (ak hn _ _) _ _) _ _) _ _)⟩
   case measure=>simp [intOf];omega
  ·have hyy:ys=jd k0 (n*4):=by
    apply List.ext_getElem?;intro t;by_cases ht:t<n*4
    ·rw [lA k0 _ t ht];exact hyz t (by omega)
    ·rw [List.getElem?_eq_none (by omega),List.getElem?_eq_none (by simp [jd];omega)]
   subst hyy;have hjl:j=n:=by omega
   subst hjl;have HB:Hid _:=hb;clear hyz hb hy;go_wp2_with fail;go_ret;exact ⟨rfl,HB.out,hn⟩
theorem sD (base g n cap:Nat) (k0:Int) (w:World) (h:w.ownsRow base 54 4 (.slice (some ⟨g,0,none⟩) n cap) n (jd k0 (n*4))) (hl:n<=1048576) (hk0:0<=k0) (hk1:k0<=1073741824):
 Calls Tryz.prog 24 #[.slice (some ⟨g,0,none⟩) n cap,.int .i64 k0] w fun e w'=>
  e=.returned (.int .i64 (k0+n*4))∧Bw w w':=by
 have hg:=(bZ h).2.2;simp only at hg;go_enter Tryz.func24,Tryz.ntmps24;go_wp2_with fail;go_loopw [1,5] (fun kk i wr=>∃(j:Nat),j<=n∧kk=.int .i64 (k0+j*4)∧i=.int .i64 j∧Bw w wr) (fun _ i _=>n-(intOf i).toNat)
 case atStart=>exact ⟨0,Nat.zero_le _,by simp,rfl,Below.refl _ _⟩
 case round=>
  obtain ⟨j,hj,rfl,rfl,hn⟩:=hrel;by_cases hlt:j<n
  ·have g0:=Below.cell2 hn (aB h (j*4) _ (lA k0 _ (j*4) (by omega))) hg;rw [Bp] at g0;have g1:=Below.cell2 hn (aB h (j*4+1) _ (lA k0 _ (j*4+1) (by omega))) hg;rw [Bq] at g1;have g2:=Below.cell2 hn (aB h (j*4+2) _ (lA k0 _ (j*4+2) (by omega))) hg;rw [Br] at g2;have g3:=Below.cell2 hn (aB h (j*4+3) _ (lA k0 _ (j*4+3) (by omega))) hg;rw [Bt] at g3;clear h;go_wp2_with fail;go_roundw
   case rel=>exact ⟨j+1,by omega,by go_num,by go_num,hn⟩
   case measure=>simp [intOf];omega
  ·have hjl:j=n:=by omega
   subst hjl;clear h;go_wp2_with fail;go_ret;exact ⟨rfl,hn⟩
end
section
attribute [local go_sem ↓] Go.wp_at_zero Go.wp_at_succ
structure RsR (w:World) (ea:Option Addr) (q:PtrM) (evs:List EvM) (h:HartM):Prop where
 ev:RowC w ea evs.length 4 (gU evs)
 mem:Byt w q.am h.mem.length h.mem
 regs:RowC w q.ar h.regs.length 1 (cU h.regs)
theorem RsR.keep {w w':World} {ea:Option Addr} {q:PtrM} {evs:List EvM} {h:HartM} (k:RsR w ea q evs h) (hb:Bw w w'):RsR w' ea q evs h:=⟨k.ev.keep hb,k.mem.keep hb,k.regs.keep hb⟩
structure RsB (evs:List EvM) (h:HartM):Prop where
 e:evs.length<=1048576
 m:h.mem.length<=1048576
 r:h.regs.length<=1048576
structure RsO (base:Nat) (w:World) (ge ec:Nat) (q:PtrM) (evs:List EvM) (h:HartM) (ce cm cr:List Value):Prop where
 ev:w.ownsRow base 54 4 (.slice (some ⟨ge,0,none⟩) evs.length ec) evs.length ce
 mem:w.ownsRow base 5 1 (.slice q.am h.mem.length q.cm) h.mem.length cm
 regs:w.ownsRow base 25 1 (.slice q.ar h.regs.length q.cr) h.regs.length cr
abbrev RsW (base:Nat) (w:World) (ge ec:Nat) (q:PtrM) (evs:List EvM) (h:HartM):Prop:=RsO base w ge ec q evs h (gU evs) (dW h.mem) (cU h.regs)
def tS (ge ec:Nat) (q:PtrM) (evs:List EvM) (h:HartM) (g:Nat):Prop:=(Value.slice (some ⟨ge,0,none⟩) evs.length ec).ownBlock=some g∨(Value.slice q.am h.mem.length q.cm).ownBlock=some g∨(Value.slice q.ar h.regs.length q.cr).ownBlock=some g
theorem RsO.keep {base:Nat} {w w':World} {ge ec:Nat} {q:PtrM} {evs:List EvM} {h:HartM} {ce cm cr:List Value} (k:RsO base w ge ec q evs h ce cm cr) (hb:Bw w w'):RsO base w' ge ec q evs h ce cm cr:=⟨aj k.ev hb,aj k.mem hb,aj k.regs hb⟩
theorem RsO.gb {base r:Nat} {w w':World} {ge ec:Nat} {q:PtrM} {evs:List EvM} {h:HartM} {ce cm cr:List Value} (k:RsO base w ge ec q evs h ce cm cr) (hg:w.grownBy w' (some r)) (hr:r<base):RsO base w' ge ec q evs h ce cm cr:=⟨aI k.ev hg hr,aI k.mem hg hr,aI k.regs hg hr⟩
theorem RsO.low {base:Nat} {w:World} {ge ec:Nat} {q:PtrM} {evs:List EvM} {h:HartM} {ce cm cr:List Value} (k:RsO base w ge ec q evs h ce cm cr):∀g,tS ge ec q evs h g->base<=g∧g<w.heap.size:=by
 rintro g (h1 | h1 | h1)
 ·exact k.ev.lt g h1
 ·exact k.mem.lt g h1
 ·exact k.regs.lt g h1
theorem RsO.read {base:Nat} {w:World} {ge ec:Nat} {q:PtrM} {evs:List EvM} {h:HartM} (k:RsW base w ge ec q evs h) (hz:∀i:Nat,0<=h.mem[i]?.getD 0∧h.mem[i]?.getD 0<=255):RsR w (some ⟨ge,0,none⟩) q evs h:=by
 refine ⟨ef k.ev,?_,ef k.regs⟩;rcases hU k.mem with ⟨h1,h2,_⟩ | ⟨g,cap,h1⟩
 ·exact ⟨rfl,hz,.inl h2⟩
 ·have hm:=k.mem;rw [h1] at hm;have hx:q.am=some ⟨g,0,none⟩:=by
   simp only [Value.slice.injEq] at h1;exact h1.1
  rw [hx];refine ⟨rfl,hz,.inr ⟨g,0,rfl,(bZ hm).2.2,fun i hi=>?_⟩⟩;have:=aB hm i (.int .u8 (h.mem[i]?.getD 0)) (by simp [dW,hi]);simpa using this
theorem RsO.box_ne {base pb:Nat} {w:World} {ge ec:Nat} {q:PtrM} {evs:List EvM} {h:HartM} {ce cm cr:List Value} {T:TypeId} {cur:Array Value} {z:Nat × Nat} (k:RsO base w ge ec q evs h ce cm cr) (hp:w.heap[pb]?=some (.cells cur T z)) (t1:T≠54) (t2:T≠5) (t3:T≠25):¬tS ge ec q evs h pb:=by
 rintro (h1 | h1 | h1)
 ·exact co k.ev hp t1 h1
 ·exact co k.mem hp t2 h1
 ·exact co k.regs hp t3 h1
theorem uE (ea eb:Option Addr) (ec ed:Nat) (p q:PtrM) (evs:List EvM) (h:HartM) (w:World) (hp:RsR w ea p evs h) (hq:RsR w eb q evs h) (hb:RsB evs h):
 Calls Tryz.prog 8 #[.agg (aW ea evs.length ec p h),.agg (aW eb evs.length ed q h)] w fun e w'=>e=.returned (.bool true)∧Bw w w':=by
 have E0:Hid (∀u,Bw w u->Calls Tryz.prog 20 #[.slice ea evs.length ec,.slice eb evs.length ed] u fun e w'=>e=.returned (.bool true)∧Bw u w'):=fun u hu=>te _ _ _ _ _ evs u (hp.ev.keep hu) (hq.ev.keep hu) rfl hb.e;have E1:Hid (∀u,Bw w u->Calls Tryz.prog 9 #[.slice p.am h.mem.length p.cm,.slice q.am h.mem.length q.cm] u fun e w'=>e=.returned (.bool true)∧Bw u w'):=fun u hu=>ot _ _ _ _ _ h.mem u (hp.mem.keep hu) (hq.mem.keep hu) hb.m;have E2:Hid (∀u,Bw w u->Calls Tryz.prog 21 #[.slice p.ar h.regs.length p.cr,.slice q.ar h.regs.length q.cr] u fun e w'=>e=.returned (.bool true)∧Bw u w'):=fun u hu=>(qU _ _ _ _ _ h.regs u (hp.regs.keep hu) (hq.regs.keep hu) hb.r).mono (by
  rintro e w' ⟨rfl,n,rfl⟩;exact ⟨rfl,mS _ _⟩)
 clear hp hq hb;have F:=jw w (aW ea evs.length ec p h) (aW eb evs.length ed q h) 27 27;have A0:Hid ((aW ea evs.length ec p h)[0]?=some (.slice ea evs.length ec)):=by show _=_;rfl
 have B0:Hid ((aW eb evs.length ed q h)[0]?=some (.slice eb evs.length ed)):=by show _=_;rfl
 have A1:Hid ((aW ea evs.length ec p h)[1]?=some (.slice p.am h.mem.length p.cm)):=by show _=_;rfl
 have B1:Hid ((aW eb evs.length ed q h)[1]?=some (.slice q.am h.mem.length q.cm)):=by show _=_;rfl
 have A2:Hid ((aW ea evs.length ec p h)[2]?=some (.slice p.ar h.regs.length p.cr)):=by show _=_;rfl
 have B2:Hid ((aW eb evs.length ed q h)[2]?=some (.slice q.ar h.regs.length q.cr)):=by show _=_;rfl
 have A3:Hid ((aW ea evs.length ec p h)[3]?=some (.int .u64 h.pc)):=by show _=_;rfl
 have B3:Hid ((aW eb evs.length ed q h)[3]?=some (.int .u64 h.pc)):=by show _=_;rfl
 have A4:Hid ((aW ea evs.length ec p h)[4]?=some (.int .i64 h.mode)):=by show _=_;rfl
 have B4:Hid ((aW eb evs.length ed q h)[4]?=some (.int .i64 h.mode)):=by show _=_;rfl
 have A5:Hid ((aW ea evs.length ec p h)[5]?=some (.bool h.sum)):=by show _=_;rfl
 have B5:Hid ((aW eb evs.length ed q h)[5]?=some (.bool h.sum)):=by show _=_;rfl
 have A6:Hid ((aW ea evs.length ec p h)[6]?=some (.bool h.mxr)):=by show _=_;rfl
 have B6:Hid ((aW eb evs.length ed q h)[6]?=some (.bool h.mxr)):=by show _=_;rfl
 have A7:Hid ((aW ea evs.length ec p h)[7]?=some (.int .u64 h.satp)):=by show _=_;rfl
 have B7:Hid ((aW eb evs.length ed q h)[7]?=some (.int .u64 h.satp)):=by show _=_;rfl
 have A8:Hid ((aW ea evs.length ec p h)[8]?=some (.int .u64 h.epc)):=by show _=_;rfl
 have B8:Hid ((aW eb evs.length ed q h)[8]?=some (.int .u64 h.epc)):=by show _=_;rfl
 have A9:Hid ((aW ea evs.length ec p h)[9]?=some (.int .i64 h.emode)):=by show _=_;rfl
 have B9:Hid ((aW eb evs.length ed q h)[9]?=some (.int .i64 h.emode)):=by show _=_;rfl
 have A10:Hid ((aW ea evs.length ec p h)[10]?=some (.int .i64 h.cause)):=by show _=_;rfl
 have B10:Hid ((aW eb evs.length ed q h)[10]?=some (.int .i64 h.cause)):=by show _=_;rfl
 have A11:Hid ((aW ea evs.length ec p h)[11]?=some (.int .u64 h.tval)):=by show _=_;rfl
 have B11:Hid ((aW eb evs.length ed q h)[11]?=some (.int .u64 h.tval)):=by show _=_;rfl
 generalize aW ea evs.length ec p h=A at *;generalize aW eb evs.length ed q h=B at *;go_enter Tryz.func8,Tryz.ntmps8;go_upto_region 1 with fail;generalize (w.alloc (Obj.cells A 27)).alloc (Obj.cells B 27)=u0 at F |-;obtain ⟨f1,f2,hz,n0⟩:=F;have H1:Hid _:=f1;have H2:Hid _:=f2;clear f1 f2;have c0:=ab H1.out 0 A0.out;have d0:=ab H2.out 0 B0.out;go_wp2_with fail;refine (E0.out u0 n0).mono ?_;rintro e u1 ⟨rfl,m0⟩;have n1:=bst n0 m0;replace H1:=ah H1 m0;replace H2:=ah H2 m0;clear c0 d0;have c1:=ab H1.out 1 A1.out;have d1:=ab H2.out 1 B1.out;go_wp2_with fail;refine (E1.out u1 n1).mono ?_;rintro e u2 ⟨rfl,m1⟩;have n2:=bst n1 m1;replace H1:=ah H1 m1;replace H2:=ah H2 m1;clear c1 d1;have c2:=ab H1.out 2 A2.out;have d2:=ab H2.out 2 B2.out;go_wp2_with fail;refine (E2.out u2 n2).mono ?_;rintro e u3 ⟨rfl,m2⟩;have n3:=bst n2 m2;replace H1:=ah H1 m2;replace H2:=ah H2 m2;clear c2 d2;have c3:=ab H1.out 3 A3.out;have d3:=ab H2.out 3 B3.out;have c4:=ab H1.out 4 A4.out;have d4:=ab H2.out 4 B4.out;have c5:=ab H1.out 5 A5.out;have d5:=ab H2.out 5 B5.out;have c6:=ab H1.out 6 A6.out;have d6:=ab H2.out 6 B6.out;have c7:=ab H1.out 7 A7.out;have d7:=ab H2.out 7 B7.out;have c8:=ab H1.out 8 A8.out;have d8:=ab H2.out 8 B8.out;have c9:=ab H1.out 9 A9.out;have d9:=ab H2.out 9 B9.out;have c10:=ab H1.out 10 A10.out;have d10:=ab H2.out 10 B10.out;have c11:=ab H1.out 11 A11.out;have d11:=ab H2.out 11 B11.out;go_wp2_with fail;go_ret;exact ⟨rfl,n3⟩
theorem so (base ge ec:Nat) (q:PtrM) (evs:List EvM) (h:HartM) (ce cm cr:List Value) (k0:Int) (w:World) (ho:RsO base w ge ec q evs h ce cm cr) (hb:RsB evs h) (hk0:0<=k0) (hk1:k0<=1048577):
 Calls Tryz.prog 11 #[.agg (aW (some ⟨ge,0,none⟩) evs.length ec q h),.int .i64 k0] w fun e w'=>e=.returned (.int .i64 (k0+evs.length*4+h.mem.length+h.regs.length))∧RsO base w' ge ec q evs h (jd k0 (evs.length*4)) (mkF (ip (k0+evs.length*4)) h.mem.length) (mkF (fq (k0+evs.length*4+h.mem.length)) h.regs.length)∧Mid (tS ge ec q evs h) w w':=by
 have F:=bS w (aW (some ⟨ge,0,none⟩) evs.length ec q h) 27;have A0:Hid ((aW (some ⟨ge,0,none⟩) evs.length ec q h)[0]?=some (.slice (some ⟨ge,0,none⟩) evs.length ec)):=by show _=_;rfl
 have A1:Hid ((aW (some ⟨ge,0,none⟩) evs.length ec q h)[1]?=some (.slice q.am h.mem.length q.cm)):=by show _=_;rfl
 have A2:Hid ((aW (some ⟨ge,0,none⟩) evs.length ec q h)[2]?=some (.slice q.ar h.regs.length q.cr)):=by show _=_;rfl
 have b0:=hb.e;have b1:=hb.m;have b2:=hb.r;have CE:=hid fun u (hu:u.ownsRow base 54 4 (.slice (some ⟨ge,0,none⟩) evs.length ec) evs.length ce)=>sC base ge _ _ ce k0 u hu b0 hk0 (by omega);have CM:=hid fun u (hu:u.ownsRow base 5 1 (.slice q.am h.mem.length q.cm) h.mem.length cm)=>sZ base _ _ cm (k0+evs.length*4) u hu b1 (by omega) (by omega);have CR:=hid fun u (hu:u.ownsRow base 25 1 (.slice q.ar h.regs.length q.cr) h.regs.length cr)=>qr base _ _ cr (k0+evs.length*4+h.mem.length) u hu b2 (by omega) (by omega);obtain ⟨oe,om,or'⟩:=ho;have OE:Hid _:=oe;have OM:Hid _:=om;have OR:Hid _:=or';clear oe om or' hb;generalize aW (some ⟨ge,0,none⟩) evs.length ec q h=A at *;go_enter Tryz.func11,Tryz.ntmps11;go_upto_region 1 with fail;generalize (w.alloc (Obj.cells A 27))=u0 at F |-;obtain ⟨f1,hz,n0⟩:=F;have H1:Hid _:=f1;clear f1;replace OE:Hid _:=aj OE.out n0;replace OM:Hid _:=aj OM.out n0;replace OR:Hid _:=aj OR.out n0;have c0:=ab H1.out 0 A0.out;go_wp2_with fail;refine (CE.out u0 OE.out).mono ?_;rintro e u1 ⟨rfl,oe',ge1⟩;have OE':Hid _:=oe';have GE:Hid _:=ge1;have Y1:Hid _:=wn H1.out ge1 (co OE.out H1.out (by decide));replace OM:Hid _:=fD OM.out ge1 (eO OM.out OE.out (by decide));replace OR:Hid _:=fD OR.out ge1 (eO OR.out OE.out (by decide));clear oe' ge1 c0 H1;have c1:=ab Y1.out 1 A1.out;go_wp2_with fail;refine (CM.out u1 OM.out).mono ?_;rintro e u2 ⟨rfl,om',gm⟩;have OM':Hid _:=om';have GM:Hid _:=gm;have Z1:Hid _:=wn Y1.out gm (co OM.out Y1.out (by decide));replace OE':Hid _:=fD OE'.out gm (eO OE'.out OM.out (by decide));replace OR:Hid _:=fD OR.out gm (eO OR.out OM.out (by decide));clear om' gm c1 Y1;have c2:=ab Z1.out 2 A2.out;go_wp2_with fail;refine (CR.out u2 OR.out).mono ?_;rintro e u3 ⟨rfl,or',gr⟩;have HF:Hid (RsO base u3 ge ec q evs h (jd k0 (evs.length*4)) (mkF (ip (k0+evs.length*4)) h.mem.length) (mkF (fq (k0+evs.length*4+h.mem.length)) h.regs.length)∧Mid (tS ge ec q evs h) w u3):=
  ⟨⟨fD OE'.out gr (eO OE'.out OR.out (by decide)),fD OM'.out gr (eO OM'.out OR.out (by decide)),or'⟩,(Mid.of_below n0).trans ((Mid.of_gb GE.out (fun g hg=>.inl hg)).trans ((Mid.of_gb GM.out (fun g hg=>.inr (.inl hg))).trans (Mid.of_gb gr (fun g hg=>.inr (.inr hg)))))⟩
 clear or' gr c2 Z1 OE' OM' OR GE GM OE OM;go_wp2_with fail;go_ret;exact ⟨rfl,HF.out⟩
theorem sp (base ge ec:Nat) (q:PtrM) (evs:List EvM) (h:HartM) (k0:Int) (w:World) (ho:RsO base w ge ec q evs h (jd k0 (evs.length*4)) (mkF (ip (k0+evs.length*4)) h.mem.length) (mkF (fq (k0+evs.length*4+h.mem.length)) h.regs.length)) (hb:RsB evs h) (hk0:0<=k0) (hk1:k0<=1048577):
 Calls Tryz.prog 12 #[.agg (aW (some ⟨ge,0,none⟩) evs.length ec q h),.int .i64 k0] w fun e w'=>e=.returned (.int .i64 (k0+evs.length*4+h.mem.length+h.regs.length))∧Bw w w':=by
 have F:=bS w (aW (some ⟨ge,0,none⟩) evs.length ec q h) 27;have A0:Hid ((aW (some ⟨ge,0,none⟩) evs.length ec q h)[0]?=some (.slice (some ⟨ge,0,none⟩) evs.length ec)):=by show _=_;rfl
 have A1:Hid ((aW (some ⟨ge,0,none⟩) evs.length ec q h)[1]?=some (.slice q.am h.mem.length q.cm)):=by show _=_;rfl
 have A2:Hid ((aW (some ⟨ge,0,none⟩) evs.length ec q h)[2]?=some (.slice q.ar h.regs.length q.cr)):=by show _=_;rfl
 have b0:=hb.e;have b1:=hb.m;have b2:=hb.r;have CE:=hid fun u (hu:Bw w u)=>sD base ge _ _ k0 u (aj ho.ev hu) b0 hk0 (by omega);have CM:=hid fun u (hu:Bw w u)=>ta base _ _ (k0+evs.length*4) u (aj ho.mem hu) b1 (by omega) (by omega);have CR:=hid fun u (hu:Bw w u)=>qu base _ _ (k0+evs.length*4+h.mem.length) u (aj ho.regs hu) b2 (by omega) (by omega);clear hb ho;generalize aW (some ⟨ge,0,none⟩) evs.length ec q h=A at *;generalize h.mem.length=LM at *;generalize h.regs.length=LR at *;generalize evs.length=LE at *;have q1:decide (k0+(LE:Int)*4<0)=false:=by simp;omega
 have q2:decide (k0+(LE:Int)*4+(LM:Int)<0)=false:=by simp;omega
 have q3:decide (k0+(LE:Int)*4+(LM:Int)+(LR:Int)<0)=false:=by simp;omega
 go_enter Tryz.func12,Tryz.ntmps12;go_upto_region 1 with fail;generalize (w.alloc (Obj.cells A 27))=u0 at F |-;obtain ⟨f1,hz,n0⟩:=F;have H1:Hid _:=f1;clear f1;have c0:=ab H1.out 0 A0.out;go_wp2_with fail;refine (CE.out u0 n0).mono ?_;rintro e u1 ⟨rfl,m1⟩;have n1:=bst n0 m1;have Y1:=ah H1 m1;clear c0 H1 m1;have c1:=ab Y1.out 1 A1.out;have c2:=ab Y1.out 2 A2.out;go_wp2_with fail;refine (CM.out u1 n1).mono ?_;rintro e _ ⟨rfl,rfl⟩;go_wp2_with fail;refine (CR.out _ n1).mono ?_;rintro e _ ⟨rfl,rfl⟩;go_wp2_with fail;go_ret;exact ⟨rfl,n1⟩
end
end Go.Proofs.YtpdddbobhndbjaaGreat
