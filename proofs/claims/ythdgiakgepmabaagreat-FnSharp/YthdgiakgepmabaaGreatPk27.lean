import Derived.Laws.BytesArg
import Derived.Test.YthdgiakgepmabaaGreatPk26
import Derived.Test.YthdgiakgepmabaaGreatPk22
import Derived.Test.YthdgiakgepmabaaGreatPk25
namespace Go.Proofs.YthdgiakgepmabaaGreat
open Go.RowKit
set_option linter.unusedVariables false
set_option maxHeartbeats 6400000
set_option maxRecDepth 20000
def ML (n:Nat) (r:RunM):Prop:=r.h.mem.length=n
theorem mu {n:Nat} {c:Prop} [Decidable c] {a b:RunM} (ha:c->ML n a) (hb:¬c->ML n b):ML n (if c then a else b):=by
 by_cases h:c
 ·rw [if_pos h];exact ha h
 ·rw [if_neg h];exact hb h
theorem dZ (plain:Bool) (pick kind:Int):∀(ps:List be) (r:RunM),(ab plain pick kind r ps).1.h.mem=r.h.mem
 | [],r=>rfl
 | p::ps,r=>by
  unfold ab;split
  ·exact dZ plain pick kind ps _
  ·rfl
theorem mv (plain:Bool) (pick:Int) (r:RunM) (kind va w:Int):(az plain pick r kind va w).1.h.mem=r.h.mem:=by
 unfold az;split
 ·split
  ·exact dZ plain pick kind _ r
  ·exact dZ plain pick kind _ r
 ·exact dZ plain pick kind _ r
theorem wP {n:Nat} (plain:Bool) (pick:Int) {r:RunM} (kind va w:Int) (h:ML n r):ML n (az plain pick r kind va w).1:=by
 unfold ML;rw [mv];exact h
theorem vl {n:Nat} (plain:Bool) {pick ea w:Int} {r:RunM} (hp:0<=pick∧pick<=255) (hv:inU ea) (hw:1<=w∧w<=8) (hr:ROk r) (h:ML n r) (hc:(az plain pick r 2 ea w).1.cause=0) (x:Int) (m:Nat):ML n (fm (az plain pick r 2 ea w) (br x m)):=by
 have k:=je plain (kind:=2) hp ⟨by omega,by omega⟩ hv hw hr;have i:=mN (plain:=plain) (pick:=pick) (r:=r) (kind:=2) (va:=ea) (w:=w) hc;have:=(tC (az plain pick r 2 ea w).2 (az plain pick r 2 ea w).1.h.mem (br x m) k.1.h.mem (dg m x) i k.2).1;show (jy (az plain pick r 2 ea w).1.h.mem (az plain pick r 2 ea w).2 (br x m)).length=n;rw [this,mv];exact h
theorem Ay (h:HartM) (b s:Int):inU (eaM h b s):=by
 unfold eaM inU;omega
theorem zY {n:Nat} {r:RunM} (h:ML n r) (a x:Int):ML n (cE r a x):=h
theorem yL {n:Nat} {r:RunM} (h:ML n r) (a x:Int):ML n (cf r a x):=h
theorem yM {n:Nat} {r:RunM} {h':HartM} (h:ML n r) (e:h'.mem=r.h.mem):ML n (bG r h'):=by
 unfold ML;show h'.mem.length=n;rw [e];exact h
theorem Az {n:Nat} (plain:Bool) {pick pc op a b c s word:Int} {r:RunM} (hp:0<=pick∧pick<=255) (hc:0<=c) (hr:ROk r) (h:ML n r):ML n (doM plain pick r pc op a b c s word):=by
 unfold doM eS dE iH;repeat' (with_reducible refine mu (fun _=>?_) (fun _=>?_))
 all_goals try (with_reducible refine zY ?_ _ _)
 all_goals first
  | with_reducible exact h
  | with_reducible exact yL h _ _
  | with_reducible exact wP plain pick _ _ _ h
  | ((with_reducible refine vl plain hp (Ay _ _ _) ?_ hr h (by assumption) _ _);first | exact qj c hc | exact ⟨by omega,by omega⟩)
  | ((with_reducible refine yM h ?_);rfl)
  | (unfold ML;split <;> exact h)
theorem yN (plain:Bool) {pick:Int} {h:HartM} (hp:0<=pick∧pick<=255) (hh:HOk h):(aW plain pick h).h.mem.length=h.mem.length:=by
 have h1:ML h.mem.length (bt plain pick h):=rfl;have k1:=kN plain pick hh;show ML h.mem.length (aW plain pick h);unfold aW jz;refine mu (fun _=>?_) (fun _=>rfl);unfold bU;generalize bt plain pick h=r at h1 k1 |-;refine mu (fun _=>mu (fun _=>mu (fun _=>?_) (fun _=>h1)) (fun _=>h1)) (fun _=>h1);unfold gc kC;exact Az plain hp (by omega) (tD (gK k1 plain hp (by omega) k1.h.pc)) h1
theorem wQ (plain:Bool):∀(ps:List Int) (h:HartM),HOk h->(∀y∈ps,0<=y∧y<=255)->(cY plain ps h).2.mem.length=h.mem.length∧(cY plain ps h).1.length=ps.length∧HOk (cY plain ps h).2
 | [],h,hk,_=>⟨rfl,rfl,hk⟩
 | y::ps,h,hk,hp=>by
  have h1:=hp y (by simp);have:=wQ plain ps (aW plain y h).h (mS plain h1 hk).h (fun z hz=>hp z (by simp [hz]));rw [cY];exact ⟨this.1.trans (yN plain h1 hk),by simp [this.2.1],this.2.2⟩
section
attribute [local go_sem ↓] Go.wp_at_zero Go.wp_at_succ
theorem rZ (a b:Option Addr) (len ca cb:Nat) (zs:List Int) (w:World) (h:RowC w a len 1 (zs.map (Value.int .u64))) (h':RowC w b len 1 (zs.map (Value.int .u64))) (hl:len<=1048576):
 Calls Tryz.prog 25 #[.slice a len ca,.slice b len cb] w fun e w'=>e=.returned (.bool true)∧∃n,w'=w.drewN n:=by
 obtain ⟨h1,h3⟩:=h;obtain ⟨_,k3⟩:=h';have hz:zs.length=len:=by simpa using h1
 have HAt:Hid (∀k,k<len->(zs.map (Value.int .u64))[k]?=some (VU (zs[k]?.getD 0))):=fun k hk=>by
  have:k<zs.length:=by omega
  simp [this]
 clear h1;go_enter Tryz.func25,Tryz.ntmps25;go_wp2;go_loopw [5] (fun i wr=>∃(k:Nat),k<=len∧i=VI k∧∃n,wr=w.drewN n) (fun i _=>len-(intOf i).toNat)
 case atStart=>exact ⟨0,Nat.zero_le _,rfl,0,rfl⟩
 case round=>
  obtain ⟨k,hk,rfl,n,rfl⟩:=hrel;by_cases hlt:k<len
  ·rcases h3 with h3 | ⟨b1,o1,rfl,hb1,hc1⟩
   ·omega
   rcases k3 with k3 | ⟨b2,o2,rfl,hb2,hc2⟩
   ·omega
   have g1:=hc1 k _ (HAt.out k hlt);have g2:=hc2 k _ (HAt.out k hlt);generalize zs[k]?.getD 0=z at g1 g2;clear hc1 hc2;go_wp2;go_quiet (fail);go_wp2;go_roundw
   case rel=>exact ⟨k+1,by omega,by go_num,n+nq,rfl⟩
   case measure=>simp [intOf];omega
  ·go_wp2;go_ret;exact ⟨rfl,n,rfl⟩
theorem oQ (a b:Option Addr) (n ca cb:Nat) (es:List EvM) (w:World) (h:RowC w a n 4 (fL es)) (h':RowC w b n 4 (fL es)) (hn:es.length=n) (hl:n<=1048576):
 Calls Tryz.prog 23 #[.slice a n ca,.slice b n cb] w fun e w'=>e=.returned (.bool true)∧Below w.heap.size w w':=by
 have HR:Hid (RowC w a n 4 (fL es)):=h;have HR':Hid (RowC w b n 4 (fL es)):=h';clear h h';go_enter Tryz.func23,Tryz.ntmps23;go_wp2;go_loopw [5] (fun i wr=>∃(k:Nat),k<=n∧i=VI k∧Below w.heap.size w wr) (fun i _=>n-(intOf i).toNat)
 case atStart=>exact ⟨0,Nat.zero_le _,rfl,brf⟩
 case round=>
  obtain ⟨k,hk,rfl,hb⟩:=hrel;by_cases hlt:k<n
  ·obtain ⟨x,hx⟩:∃x:EvM,es[k]?=some x:=⟨_,geg (by omega)⟩;have R1:=RowC.keep HR.out hb;have R2:=RowC.keep HR'.out hb;obtain ⟨b1,o1,rfl,lb1⟩:∃b1 o1,a=some (AD b1 o1)∧b1<wr.heap.size:=by
    rcases R1.2 with h | ⟨b1,o1,h,h2,_⟩
    ·omega
    ·exact ⟨b1,o1,h,h2⟩
   obtain ⟨b2,o2,rfl,lb2⟩:∃b2 o2,b=some (AD b2 o2)∧b2<wr.heap.size:=by
    rcases R2.2 with h | ⟨b2,o2,h,h2,_⟩
    ·omega
    ·exact ⟨b2,o2,h,h2⟩
   obtain ⟨vp,vm,vc,vt⟩:=x;have C1:=fun j u hj hu=>aS (vi R1 hn k _ hx j u hj hu) lb1;have C2:=fun j u hj hu=>aS (vi R2 hn k _ hx j u hj hu) lb2;have g0:∀u:Lies wr,u.w.cell? ⟨b1,o1+k*4,none⟩=some (VU vp):=C1 0 _ (by omega) rfl;have g1:∀u:Lies wr,u.w.cell? ⟨b1,o1+k*4+1,none⟩=some (VI vm):=C1 1 _ (by omega) rfl;have g2:∀u:Lies wr,u.w.cell? ⟨b1,o1+k*4+2,none⟩=some (VI vc):=C1 2 _ (by omega) rfl;have g3:∀u:Lies wr,u.w.cell? ⟨b1,o1+k*4+3,none⟩=some (VU vt):=C1 3 _ (by omega) rfl;have f0:∀u:Lies wr,u.w.cell? ⟨b2,o2+k*4,none⟩=some (VU vp):=C2 0 _ (by omega) rfl;have f1:∀u:Lies wr,u.w.cell? ⟨b2,o2+k*4+1,none⟩=some (VI vm):=C2 1 _ (by omega) rfl;have f2:∀u:Lies wr,u.w.cell? ⟨b2,o2+k*4+2,none⟩=some (VI vc):=C2 2 _ (by omega) rfl;have f3:∀u:Lies wr,u.w.cell? ⟨b2,o2+k*4+3,none⟩=some (VU vt):=C2 3 _ (by omega) rfl;have ne:=dS wr;clear C1 C2 R1 R2 hx;go_wp2_with fail;refine dk (by kernel_rfl) (by kernel_rfl) ?_;repeat (go_big_quiet_step (fail))
   refine wpQuiet_nil ?_;rintro _ ⟨u,rfl⟩;have hb2:=Below.step hb u.h (Nat.le_refl _);generalize u.w=v2 at hb2 |-;clear g0 g1 g2 g3 f0 f1 f2 f3 hb;go_wp2;go_roundw
   case rel=>exact ⟨k+1,by omega,by go_num,hb2⟩
   case measure=>simp [intOf];omega
  ·have hkl:k=n:=by omega
   subst hkl;go_wp2;go_ret;exact ⟨rfl,hb⟩
theorem nl {w:World} {a:Option Addr} {len:Nat} {zs:List Int} (h:Byt w a len zs) (h0:0<len) (c:Nat):(convert 22 9 (.slice a len c)).run Tryz.prog w=.ok (.string (strOfNums zs)) w:=by
 rcases h.2.2 with h1 | ⟨b,off,rfl,_,hc⟩
 ·omega
 ·exact run_convert_bytes_arg (P:=Tryz.prog) w 22 5 Tryz.underlying22 Tryz.underlying5 b off len c zs h.1 (fun i hi=>by rw [hc i hi,List.getD_eq_getElem?_getD]) 9 Tryz.underlying9
theorem qz (a b:Option Addr) (len ca cb:Nat) (zs:List Int) (w:World) (h:Byt w a len zs) (h':Byt w b len zs) (h0:0<len):
 Calls Tryz.prog 24 #[.slice a len ca,.slice b len cb] w fun e w'=>e=.returned (.bool true)∧w'=w:=by
 have c1:=nl h h0 ca;have c2:=nl h' h0 cb;clear h h';generalize strOfNums zs=s at c1 c2;go_enter Tryz.func24,Tryz.ntmps24;go_wp2;go_ret;simp
theorem oS (ea eb:Option Addr) (ec ed:Nat) (p q:PtrM) (evs:List EvM) (h:HartM) (w:World) (hp:RsR w ea p evs h) (hq:RsR w eb q evs h) (hb:RsB evs h) (h0:0<h.mem.length):
 Calls Tryz.prog 12 #[.agg (bP ea evs.length ec p h),.agg (bP eb evs.length ed q h)] w fun e w'=>e=.returned (.bool true)∧Below w.heap.size w w':=by
 have E0:Hid (∀u,Below w.heap.size w u->Calls Tryz.prog 23 #[.slice ea evs.length ec,.slice eb evs.length ed] u fun e w'=>e=.returned (.bool true)∧Below u.heap.size u w'):=fun u hu=>oQ _ _ _ _ _ evs u (hp.ev.keep hu) (hq.ev.keep hu) rfl hb.e;have E1:Hid (∀u,Below w.heap.size w u->Calls Tryz.prog 24 #[.slice p.am h.mem.length p.cm,.slice q.am h.mem.length q.cm] u fun e w'=>e=.returned (.bool true)∧w'=u):=fun u hu=>qz _ _ _ _ _ h.mem u (hp.mem.keep hu) (hq.mem.keep hu) h0;have E2:Hid (∀u,Below w.heap.size w u->Calls Tryz.prog 25 #[.slice p.ar h.regs.length p.cr,.slice q.ar h.regs.length q.cr] u fun e w'=>e=.returned (.bool true)∧Below u.heap.size u w'):=fun u hu=>(rZ _ _ _ _ _ h.regs u (hp.regs.keep hu) (hq.regs.keep hu) hb.r).mono (by
  rintro e w' ⟨rfl,n,rfl⟩;exact ⟨rfl,jS _ _⟩)
 clear hp hq hb;have F:=lk w (bP ea evs.length ec p h) (bP eb evs.length ed q h) 35 35;have A0:Hid ((bP ea evs.length ec p h)[0]?=some (.slice ea evs.length ec)):=by show _=_;rfl
 have B0:Hid ((bP eb evs.length ed q h)[0]?=some (.slice eb evs.length ed)):=by show _=_;rfl
 have A1:Hid ((bP ea evs.length ec p h)[1]?=some (.slice p.am h.mem.length p.cm)):=by show _=_;rfl
 have B1:Hid ((bP eb evs.length ed q h)[1]?=some (.slice q.am h.mem.length q.cm)):=by show _=_;rfl
 have A2:Hid ((bP ea evs.length ec p h)[2]?=some (.slice p.ar h.regs.length p.cr)):=by show _=_;rfl
 have B2:Hid ((bP eb evs.length ed q h)[2]?=some (.slice q.ar h.regs.length q.cr)):=by show _=_;rfl
 have A3:Hid ((bP ea evs.length ec p h)[3]?=some (VU h.pc)):=by show _=_;rfl
 have B3:Hid ((bP eb evs.length ed q h)[3]?=some (VU h.pc)):=by show _=_;rfl
 have A4:Hid ((bP ea evs.length ec p h)[4]?=some (VI h.mode)):=by show _=_;rfl
 have B4:Hid ((bP eb evs.length ed q h)[4]?=some (VI h.mode)):=by show _=_;rfl
 have A5:Hid ((bP ea evs.length ec p h)[5]?=some (.bool h.sum)):=by show _=_;rfl
 have B5:Hid ((bP eb evs.length ed q h)[5]?=some (.bool h.sum)):=by show _=_;rfl
 have A6:Hid ((bP ea evs.length ec p h)[6]?=some (.bool h.mxr)):=by show _=_;rfl
 have B6:Hid ((bP eb evs.length ed q h)[6]?=some (.bool h.mxr)):=by show _=_;rfl
 have A7:Hid ((bP ea evs.length ec p h)[7]?=some (VU h.satp)):=by show _=_;rfl
 have B7:Hid ((bP eb evs.length ed q h)[7]?=some (VU h.satp)):=by show _=_;rfl
 have A8:Hid ((bP ea evs.length ec p h)[8]?=some (VU h.epc)):=by show _=_;rfl
 have B8:Hid ((bP eb evs.length ed q h)[8]?=some (VU h.epc)):=by show _=_;rfl
 have A9:Hid ((bP ea evs.length ec p h)[9]?=some (VI h.emode)):=by show _=_;rfl
 have B9:Hid ((bP eb evs.length ed q h)[9]?=some (VI h.emode)):=by show _=_;rfl
 have A10:Hid ((bP ea evs.length ec p h)[10]?=some (VI h.cause)):=by show _=_;rfl
 have B10:Hid ((bP eb evs.length ed q h)[10]?=some (VI h.cause)):=by show _=_;rfl
 have A11:Hid ((bP ea evs.length ec p h)[11]?=some (VU h.tval)):=by show _=_;rfl
 have B11:Hid ((bP eb evs.length ed q h)[11]?=some (VU h.tval)):=by show _=_;rfl
 generalize bP ea evs.length ec p h=A at *;generalize bP eb evs.length ed q h=B at *;go_enter Tryz.func12,Tryz.ntmps12;go_upto_region 1 with fail;generalize (w.alloc (Obj.cells A 35)).alloc (Obj.cells B 35)=u0 at F |-;obtain ⟨f1,f2,hz,n0⟩:=F;have H1:Hid _:=f1;have H2:Hid _:=f2;clear f1 f2;have c0:=aa H1.out 0 A0.out;have d0:=aa H2.out 0 B0.out;go_wp2_with fail;refine (E0.out u0 n0).mono ?_;rintro e u1 ⟨rfl,m0⟩;have n1:=Below.step n0 m0 (Nat.le_refl _);replace H1:=ae H1 m0;replace H2:=ae H2 m0;clear c0 d0;have c1:=aa H1.out 1 A1.out;have d1:=aa H2.out 1 B1.out;have c2:=aa H1.out 2 A2.out;have d2:=aa H2.out 2 B2.out;go_wp2_with fail;refine (E1.out u1 n1).mono ?_;rintro e _ ⟨rfl,rfl⟩;go_wp2_with fail;refine (E2.out _ n1).mono ?_;rintro e u3 ⟨rfl,m2⟩;have n3:=Below.step n1 m2 (Nat.le_refl _);replace H1:=ae H1 m2;replace H2:=ae H2 m2;clear c1 d1 c2 d2;have c3:=aa H1.out 3 A3.out;have d3:=aa H2.out 3 B3.out;have c4:=aa H1.out 4 A4.out;have d4:=aa H2.out 4 B4.out;have c5:=aa H1.out 5 A5.out;have d5:=aa H2.out 5 B5.out;have c6:=aa H1.out 6 A6.out;have d6:=aa H2.out 6 B6.out;have c7:=aa H1.out 7 A7.out;have d7:=aa H2.out 7 B7.out;have c8:=aa H1.out 8 A8.out;have d8:=aa H2.out 8 B8.out;have c9:=aa H1.out 9 A9.out;have d9:=aa H2.out 9 B9.out;have c10:=aa H1.out 10 A10.out;have d10:=aa H2.out 10 B10.out;have c11:=aa H1.out 11 A11.out;have d11:=aa H2.out 11 B11.out;go_wp2;go_ret;exact ⟨rfl,n3⟩
theorem sa {v:World} {g:Nat} {V:Array Value} (hs:V.size=12) (h:v.heap[g]?=some (.cells V 35 (0,0))):(Instr.loadAt 35 (PT g 0)).run Tryz.prog v=.ok (.agg V) v:=
 ey h Tryz.underlying35 rfl (by rw [hs];exact uS)
theorem ldu {v:World} {b i:Nat} {s:Int} (h:v.cell? (AD b i)=some (VU s)):(Instr.loadAt 33 (PT b i)).run Tryz.prog v=.ok (VU s) v:=by go_simp
theorem ldi {v:World} {b i:Nat} {s:Int} (h:v.cell? (AD b i)=some (VI s)):(Instr.loadAt 2 (PT b i)).run Tryz.prog v=.ok (VI s) v:=by go_simp
theorem ldb {v:World} {b i:Nat} {s:Bool} (h:v.cell? (AD b i)=some (.bool s)):(Instr.loadAt 4 (PT b i)).run Tryz.prog v=.ok (.bool s) v:=by go_simp
end
section
variable {P:Program} {ops:Array Oper} {Q:Exit->Act->World->Prop} {F:World->Prop} {c:Nat}
def vk (P:Program) (ops:Array Oper) (Q:Exit->Act->World->Prop) (F:World->Prop) (K:Act->World->Prop):List Nat->Act->World->Prop
 | [],a,w=>K a w
 | i::is,a,w=>wpOp P ops Q i (fun a' w'=>F w'∧vk P ops Q F K is a' w') a w
def flW (P:Program) (ops:Array Oper) (Q:Exit->Act->World->Prop) (F:World->Prop) (K:Act->World->Prop) (j:Nat):List Nat->Act->World->Prop
 | [],a,w=>wpOp P ops Q j (fun a' w'=>F w'∧K a' w') a w
 | i::is,a,w=>wpOp P ops Q i (fun a' w'=>F w'∧flW P ops Q F K j is a' w') a w∧wpOp P ops Q j (fun a' w'=>F w'∧vk P ops Q F K (i::is) a' w') a w
def wO (ops:Array Oper) (L:Array Bool):List Nat->Array Bool->Bool
 | [],s=>s == L
 | i::is,s=>Region.ready .any ops s == [i] && wO ops L is (s.setIfInBounds i true)
def flB (ops:Array Oper) (L:Array Bool) (j:Nat):List Nat->Array Bool->Bool
 | [],s=>Region.ready .any ops s == [j] && s.setIfInBounds j true == L
 | i::is,s=>Region.ready .any ops s == [i,j] && wO ops L (i::is) (s.setIfInBounds j true) && flB ops L j is (s.setIfInBounds i true)
theorem ut {fuel:Nat} {L:Array Bool}:∀(is:List Nat) (s:Array Bool) (a:Act) (w:World),wO ops L is s=true->vk P ops Q F (fun a w=>aL P ops Q F c fuel L a w) is a w->aL P ops Q F c (fuel+is.length) s a w
 | [],s,a,w,hb,h=>by
  simp only [wO,beq_iff_eq] at hb;rw [hb];exact h
 | i::is,s,a,w,hb,h=>by
  simp only [wO,Bool.and_eq_true,beq_iff_eq] at hb;exact fW i hb.1 (wpOp_mono (fun a' w' h'=>⟨fun _=>h'.1,ut is _ a' w' hb.2 h'.2⟩) h)
theorem uu {fuel:Nat} {L:Array Bool} (j:Nat):∀(is:List Nat) (s:Array Bool) (a:Act) (w:World),flB ops L j is s=true->flW P ops Q F (fun a w=>aL P ops Q F c fuel L a w) j is a w->aL P ops Q F c (fuel+is.length+1) s a w
 | [],s,a,w,hb,h=>by
  simp only [flB,Bool.and_eq_true,beq_iff_eq] at hb;refine fW j hb.1 (wpOp_mono (fun a' w' h'=>⟨fun _=>h'.1,?_⟩) h);rw [hb.2];exact h'.2
 | i::is,s,a,w,hb,h=>by
  simp only [flB,Bool.and_eq_true,beq_iff_eq] at hb;exact xR i j hb.1.1 (wpOp_mono (fun a' w' h'=>⟨fun _=>h'.1,uu j is _ a' w' hb.2 h'.2⟩) h.1) (wpOp_mono (fun a' w' h'=>⟨fun _=>h'.1,ut (i::is) _ a' w' hb.1.2 h'.2⟩) h.2)
end
theorem jf {P:Program} {ops:Array Oper} {Q:Exit->Act->World->Prop} {F:World->Prop} {c:Nat} {fuel:Nat} {listed L:Array Bool} {a:Act} {w:World} (i1 i2 i3 j:Nat) {o1 o2 o3 oj:Oper} (d1 d2 d3 dj:Tmp) {Z:Array Value} {T:TypeId} {f2 f3:FuncId}
 (X:World->Value) (N:World->World) (args2 args3:Value->Array Value) (I1 I2 I3:Value->World->Prop)
 (e1:ops[i1]?=some o1) (e2:ops[i2]?=some o2) (e3:ops[i3]?=some o3) (ej:ops[j]?=some oj) (hL:(((listed.setIfInBounds i1 true).setIfInBounds i2 true).setIfInBounds i3 true).setIfInBounds j true=L)
 (hF:∀u,Bw w u->F u) (m1:∀x u v,I1 x u->Bw u v->I1 x v) (m2:∀x u v,I2 x u->Bw u v->I2 x v) (m3:∀x u v,I3 x u->Bw u v->I3 x v)
 (c1:∀u,Bw w u->I1 (X u) (N u)∧Bw u (N u))
 (c2:∀x u,Bw w u->I1 x u->Calls P f2 (args2 x) u fun e v=>(∃y,e=.returned y∧I2 y v)∧Bw u v)
 (c3:∀x u,Bw w u->I2 x u->Calls P f3 (args3 x) u fun e v=>(∃y,e=.returned y∧I3 y v)∧Bw u v)
 (h:∀x y z p v,I3 z v->w.heap.size<=p->v.heap[p]?=some (.cells Z T (0,0))->Bw w v->aL P ops Q F c fuel L ((((a.put (some d1) x).put (some d2) y).put (some d3) z).put (some dj) (PT p 0)) v)
 (hfl:flB ops L j [i1,i2,i3] listed=true:=by kernel_rfl)
 (dd:(o1.dst == some d1 && o2.dst == some d2 && o3.dst == some d3 && oj.dst == some dj && d1 != dj && d2 != dj && d3 != dj && o1.guard.isNone && o2.guard.isNone && o3.guard.isNone && oj.guard.isNone)=true:=by kernel_rfl)
 (x1:∀u,(execOp a.eval o1).run P u=.ok (.value (X u)) (N u):=by intro u;kernel_rfl) (x1':∀p u,(execOp (a.put (some dj) p).eval o1).run P u=.ok (.value (X u)) (N u):=by intro p u;kernel_rfl)
 (x2:∀x u,(execOp (a.put (some d1) x).eval o2).run P u=.ok (.enter f2 (args2 x)) u:=by intro x u;kernel_rfl) (x2':∀x p u,(execOp ((a.put (some d1) x).put (some dj) p).eval o2).run P u=.ok (.enter f2 (args2 x)) u:=by intro x p u;kernel_rfl)
 (x3:∀x y u,(execOp ((a.put (some d1) x).put (some d2) y).eval o3).run P u=.ok (.enter f3 (args3 y)) u:=by intro x y u;kernel_rfl) (x3':∀x y p u,(execOp (((a.put (some d1) x).put (some d2) y).put (some dj) p).eval o3).run P u=.ok (.enter f3 (args3 y)) u:=by intro x y p u;kernel_rfl)
 (xj:∀b u,(execOp b oj).run P u=.ok (.value (PT u.heap.size 0)) (u.alloc (.cells Z T)):=by intro b u;kernel_rfl):aL P ops Q F c (fuel+4) listed a w:=by
 simp only [Bool.and_eq_true,beq_iff_eq,bne_iff_ne,Option.isNone_iff_eq_none] at dd;obtain ⟨⟨⟨⟨⟨⟨⟨⟨⟨⟨t1,t2⟩,t3⟩,tj⟩,n1⟩,n2⟩,n3⟩,g1⟩,g2⟩,g3⟩,gj⟩:=dd;have AL:∀u,Bw w u->w.heap.size<=u.heap.size∧Bw w (u.alloc (.cells Z T))∧Bw u (u.alloc (.cells Z T))∧(u.alloc (.cells Z T)).heap[u.heap.size]?=some (.cells Z T (0,0)):=fun u hu=>⟨hu.size,bst hu (bN u Z T).2.2,(bN u Z T).2.2,(bN u Z T).1⟩;have S3:∀x y p v,I2 y v->w.heap.size<=p->v.heap[p]?=some (.cells Z T (0,0))->Bw w v->vk P ops Q F (fun a w=>aL P ops Q F c fuel L a w) [i3] (((a.put (some d1) x).put (some d2) y).put (some dj) (PT p 0)) v:=by
  intro x y p v hy hp hz hb;refine mo i3 d3 t3 e3 g3 (x3' _ _ _ _) ((c3 y v hb hy).mono ?_);rintro e u ⟨⟨z,rfl,k⟩,n⟩;refine ⟨z,rfl,hF u (bst hb n),?_⟩;show aL P ops Q F c fuel L _ _;rw [nv (Ne.symm n3)];exact h x y z p u k hp (ag hz n (hpl hz)) (bst hb n)
 have S2:∀x p v,I1 x v->w.heap.size<=p->v.heap[p]?=some (.cells Z T (0,0))->Bw w v->vk P ops Q F (fun a w=>aL P ops Q F c fuel L a w) [i2,i3] ((a.put (some d1) x).put (some dj) (PT p 0)) v:=by
  intro x p v hx hp hz hb;refine mo i2 d2 t2 e2 g2 (x2' _ _ _) ((c2 x v hb hx).mono ?_);rintro e u ⟨⟨y,rfl,k⟩,n⟩;refine ⟨y,rfl,hF u (bst hb n),?_⟩;rw [nv (Ne.symm n2)];exact S3 x y p u k hp (ag hz n (hpl hz)) (bst hb n)
 have S1:∀p v,w.heap.size<=p->v.heap[p]?=some (.cells Z T (0,0))->Bw w v->vk P ops Q F (fun a w=>aL P ops Q F c fuel L a w) [i1,i2,i3] (a.put (some dj) (PT p 0)) v:=by
  intro p v hp hz hb;obtain ⟨k,n⟩:=c1 v hb;refine ld i1 d1 _ t1 e1 g1 (x1' _ _) ⟨hF _ (bst hb n),?_⟩;rw [nv (Ne.symm n1)];exact S2 _ p _ k hp (ag hz n (hpl hz)) (bst hb n)
 have hr:=Below.refl w.heap.size w;refine uu (fuel:=fuel) j [i1,i2,i3] _ _ _ hfl ⟨?_,?_⟩
 ·obtain ⟨k1,b1⟩:=c1 w hr;refine ld i1 d1 _ t1 e1 g1 (x1 _) ⟨hF _ b1,?_,?_⟩
  ·refine mo i2 d2 t2 e2 g2 (x2 _ _) ((c2 _ _ b1 k1).mono ?_);rintro e u ⟨⟨y,rfl,k2⟩,b⟩;have b2:=bst b1 b;refine ⟨y,rfl,hF u b2,?_,?_⟩
   ·refine mo i3 d3 t3 e3 g3 (x3 _ _ _) ((c3 _ _ b2 k2).mono ?_);rintro e v ⟨⟨z,rfl,k3⟩,b⟩;have b3:=bst b2 b;refine ⟨z,rfl,hF v b3,?_⟩;obtain ⟨l,q1,q2,q3⟩:=AL v b3;exact ld j dj _ tj ej gj (xj _ _) ⟨hF _ q1,h _ y z _ _ (m3 _ _ _ k3 q2) l q3 q1⟩
   ·obtain ⟨l,q1,q2,q3⟩:=AL u b2;exact ld j dj _ tj ej gj (xj _ _) ⟨hF _ q1,S3 _ y _ _ (m2 _ _ _ k2 q2) l q3 q1⟩
  ·obtain ⟨l,q1,q2,q3⟩:=AL _ b1;exact ld j dj _ tj ej gj (xj _ _) ⟨hF _ q1,S2 _ _ _ (m1 _ _ _ k1 q2) l q3 q1⟩
 ·obtain ⟨l,q1,q2,q3⟩:=AL w hr;exact ld j dj _ tj ej gj (xj _ _) ⟨hF _ q1,S1 _ _ l q3 q1⟩
section
attribute [local go_sem ↓] Go.wp_at_zero Go.wp_at_succ
theorem eD {xs ys:List Int} (h:∀z∈xs,0<=z∧z<=255) (k:∀z∈ys,0<=z∧z<=255):∀z∈xs++ys,0<=z∧z<=255:=fun z hz=>(List.mem_append.1 hz).elim (h z) (k z)
theorem zf (n:Nat):∀z∈me n,0<=z∧z<=255:=fun z hz=>by
 obtain ⟨x,_,hx⟩:=List.mem_flatMap.1 hz;exact dg 8 x z hx
theorem ql {a b how:Int} {ps:List Int} (ha:0<=a∧a<=255) (hb:0<=b∧b<=255) (hh:how=0∨how=1∨how=2∨how=3∨how=4) (hp:∀z∈ps,0<=z∧z<=255):∀z∈eC a b how ps,0<=z∧z<=255:=by
 have hc:∀z∈dK how,0<=z∧z<=255:=by rcases hh with rfl | rfl | rfl | rfl | rfl <;> decide
 have hl:(dK how).length<=255:=by rcases hh with rfl | rfl | rfl | rfl | rfl <;> decide
 have h1:∀z∈[4,4,4,15,1,if how=0 then 3 else 4,(0:Int)],0<=z∧z<=255:=by split <;> decide
 have r:∀ad x:Int,0<=ad∧ad<=65535->∀z∈cy ad (br x 8),0<=z∧z<=255:=fun ad x h=>dw h (by rw [dY];decide) (dg 8 x);have o:∀ad x:Int,0<=ad∧ad<=65535->0<=x∧x<=255->∀z∈cy ad [x],0<=z∧z<=255:=fun ad x h k=>dw h (show 1<=255 by decide) (by simpa using k);exact eD (eD (eD (eD (eD (eD (eD (eD (eD (eD (eD h1 (zf 10)) (by decide)) (r 64 3073 (by decide))) (r 72 199 (by decide))) (r 192 5121 (by decide))) (r 320 8267 (by decide))) (r 336 10439 (by decide))) (o 640 a (by decide) ha)) (o 704 b (by decide) hb)) (dw (by decide) hl hc)) hp
def ByI (ps:List Int) (x:Value) (u:World):Prop:=∃g o n c,x=.slice (some (AD g o)) n c∧n<=1000∧Byt u (some (AD g o)) n ps
theorem ByI.keep {ps:List Int} {x:Value} {u v:World} (h:ByI ps x u) (hb:Bw u v):ByI ps x v:=by
 obtain ⟨g,o,n,c,h1,h2,h3⟩:=h;exact ⟨g,o,n,c,h1,h2,h3.keep hb⟩
def RunI (evs:List EvM) (h:HartM) (x:Value) (u:World):Prop:=∃base ge ec q,x=.agg (bP (some (AD ge 0)) evs.length ec q h)∧RsW base u ge ec q evs h
theorem RunI.keep {evs:List EvM} {h:HartM} {x:Value} {u v:World} (k:RunI evs h x u) (hb:Bw u v):RunI evs h x v:=by
 obtain ⟨base,ge,ec,q,h1,h2⟩:=k;exact ⟨base,ge,ec,q,h1,h2.keep hb⟩
def RunB (evs:List EvM) (h:HartM) (p:Nat) (u:World):Prop:=∃ge ec q,u.heap[p]?=some (.cells (bP (some (AD ge 0)) evs.length ec q h) 35 (0,0))∧RsR u (some (AD ge 0)) q evs h
theorem RunB.keep {evs:List EvM} {h:HartM} {p:Nat} {u v:World} (k:RunB evs h p u) (hb:Bw u v):RunB evs h p v:=by
 obtain ⟨ge,ec,q,h1,h2⟩:=k;exact ⟨ge,ec,q,ag h1 hb (hpl h1),h2.keep hb⟩
theorem RsO.set {base pb:Nat} {w w':World} {ge ec:Nat} {q:PtrM} {evs:List EvM} {h:HartM} {ce cm cr:List Value} {T:TypeId} {cur:Array Value} {z:Nat × Nat} (k:RsO base w ge ec q evs h ce cm cr) (hp:w.heap[pb]?=some (.cells cur T z)) (t1:T≠97) (t2:T≠5) (t3:T≠33) (hg:w.grownBy w' (some pb)):RsO base w' ge ec q evs h ce cm cr:=
 ⟨k.ev.kept hg (.inr (aY k.ev hp t1)),k.mem.kept hg (.inr (aY k.mem hp t2)),k.regs.kept hg (.inr (aY k.regs hp t3))⟩
theorem ji {evs:List EvM} {h:HartM} {z:Value} {p:Nat} {v:World} (hz:v.heap[p]?=some (.cells ip 35 (0,0))) (k:RunI evs h z v) (hm:∀i:Nat,0<=h.mem[i]?.getD 0∧h.mem[i]?.getD 0<=255):
 ∃v',(Instr.storeAt 35 (PT p 0) z).run Tryz.prog v=.ok () v'∧RunB evs h p v'∧∀u:World,u.heap.size<=p->Bw u v->Bw u v':=by
 obtain ⟨base,ge,ec,q,rfl,ho⟩:=k;refine ⟨_,dh (P:=Tryz.prog) (T:=35) hz uS rfl (yf _ _ _ _ _),⟨ge,ec,q,cD hz rfl,?_⟩,fun u hp hb=>dn hp _ _ _ hb⟩;exact RsO.read (ho.set hz (by decide) (by decide) (by decide) (bK p _ 0 v _ (ap _ _))) hm
theorem Bf:(Tryz.prog.info? 24).map (·.size)=some 2:=by kernel_rfl
theorem pu {x:Bool} {y:Int} {p:Nat} {v:World} (hz:v.heap[p]?=some (.cells #[.bool false,VI 0] 24 (0,0))):
 ∃v',(Instr.storeAt 24 (PT p 0) (.agg #[.bool x,VI y])).run Tryz.prog v=.ok () v'∧Hid (v'.heap[p]?=some (.cells #[.bool x,VI y] 24 (0,0)))∧∀u:World,u.heap.size<=p->Bw u v->Bw u v':=
 ⟨_,dh (P:=Tryz.prog) (T:=24) hz Bf rfl (by simp [Value.oneCell']),cD hz rfl,fun u hp hb=>dn hp _ _ _ hb⟩
theorem xA {zs:List Int} {x:Value} {u:World} (hx:ByI zs x u):Calls Tryz.prog 7 #[x] u fun e v=>(∃y,e=.returned y∧y=.agg #[.bool (go (bh zs) (aC zs) [] 0).1,VI ((go (bh zs) (aC zs) [] 0).2:Int)])∧Bw u v:=by
 obtain ⟨g,o,n,c,rfl,hn,hy⟩:=hx;exact (rP (some (AD g o)) n c zs u hy (by omega)).mono fun e v ⟨h1,h2⟩=>⟨⟨_,h1,rfl⟩,h2⟩
theorem qm {zs:List Int} {plain:Bool} {x:Value} {u:World} (hx:ByI zs x u):Calls Tryz.prog 11 #[x,.bool plain] u fun e v=>(∃y,e=.returned y∧RunI (cY plain (bh zs) (aC zs)).1 (cY plain (bh zs) (aC zs)).2 y v)∧Bw u v:=by
 obtain ⟨g,o,n,c,rfl,hn,hy⟩:=hx;exact (sd (some (AD g o)) n c zs plain u hy (by omega)).mono fun e v ⟨⟨ge,ec,q,h1,h2⟩,h3⟩=>⟨⟨_,h1,_,ge,ec,q,rfl,h2⟩,h3⟩
theorem tK {zs:List Int} (plain:Bool) (hz:∀i:Nat,0<=zs[i]?.getD 0∧zs[i]?.getD 0<=255):HOk (cY plain (bh zs) (aC zs)).2∧(cY plain (bh zs) (aC zs)).1.length<=20000:=by
 obtain ⟨_,el,rk⟩:=wQ plain (bh zs) (aC zs) (qa hz) (nV hz);exact ⟨rk,by rw [el];have:=lC zs;omega⟩
theorem qn {a b how:Int} {ps:List Int} (ha:0<=a∧a<=255) (hb:0<=b∧b<=255) (hh:how=0∨how=1∨how=2∨how=3∨how=4) (hp:∀z∈ps,0<=z∧z<=255) (hl:ps.length<=255) {x:Value} {u:World} (hx:ByI ps x u):
 Calls Tryz.prog 10 #[.int .u8 a,.int .u8 b,VI how,x] u fun e v=>(∃y,e=.returned y∧ByI (eC a b how ps) y v)∧Bw u v:=by
 obtain ⟨g,o,n,c,rfl,hn,hy⟩:=hx;exact (oL a b how g o n c ps u ha hb hh hy (by have:=hy.1;omega)).mono fun e v ⟨g1,c1,n1,h1,h2,h3,h4⟩=>⟨⟨_,h1,g1,0,n1,c1,rfl,h2,h3.byt (bk (ql ha hb hh hp))⟩,h4⟩
theorem ld8 {v:World} {b i:Nat} {s:Int} (h:v.cell? (AD b i)=some (.int .u8 s)):(Instr.loadAt 5 (PT b i)).run Tryz.prog v=.ok (.int .u8 s) v:=by go_simp
theorem xB (u:World) (A:Array Value) (zs:List Int) (n:Nat) (hA:A=(zs.map (Value.int .u8)).toArray) (hn:zs.length=n) (hz:∀z∈zs,0<=z∧z<=255) (hm:n<=1000):ByI zs (SL u.heap.size n n) (u.alloc (.cells A 5))∧Bw u (u.alloc (.cells A 5)):=by
 obtain ⟨v,E,n0,_,y⟩:=ep u A zs n hA hn hz hm;rw [E.out];exact ⟨⟨_,0,n,n,rfl,hm,y.out⟩,n0⟩
end
end Go.Proofs.YthdgiakgepmabaaGreat
