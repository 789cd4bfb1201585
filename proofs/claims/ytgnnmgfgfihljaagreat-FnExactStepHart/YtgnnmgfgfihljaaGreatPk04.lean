import Derived.Test.YtgnnmgfgfihljaaGreatPk03
import Derived.Deep.CutRange
namespace Go.Proofs.YtgnnmgfgfihljaaGreat
open Go.RowKit
set_option linter.unusedVariables false
set_option maxHeartbeats 6400000
set_option maxRecDepth 20000
def gk (e:EntM):List Value:=[.bool e.valid,.int .i64 e.level,.int .u64 e.tag,.int .u64 e.asid,.bool e.glob,.int .u64 e.pte]
def kW (e:EntM):Value:=.agg #[.bool e.valid,.int .i64 e.level,.int .u64 e.tag,.int .u64 e.asid,.bool e.glob,.int .u64 e.pte]
theorem qz (va level:Int) (w:World) (h0:0<=va) (h1:va<=18446744073709551615) (hl:0<=level) (hl':level<=2):
 Calls Tryz.prog 176 #[.int .u64 va,.int .i64 level] w fun e w'=>e=.returned (.int .u64 (eF va level))∧∃n,w'=w.drewN n:=by
 rcases (show level=0∨level=1∨level=2 by omega) with rfl | rfl | rfl
 ·go_enter Tryz.func176,Tryz.ntmps176;go_wp2_with fail;refine (bJ va 6 14 64 512 w h0 h1 (by omega) (by omega) (by omega) (by omega) rfl rfl).mono ?_;rintro e w' ⟨rfl,nq,rfl⟩;go_wp2_with fail;go_ret;exact ⟨rfl,nq,rfl⟩
 ·go_enter Tryz.func176,Tryz.ntmps176;go_wp2_with fail;refine (bJ va 9 14 512 64 w h0 h1 (by omega) (by omega) (by omega) (by omega) rfl rfl).mono ?_;rintro e w' ⟨rfl,nq,rfl⟩;go_wp2_with fail;go_ret;exact ⟨rfl,nq,rfl⟩
 ·go_enter Tryz.func176,Tryz.ntmps176;go_wp2_with fail;refine (bJ va 12 14 4096 8 w h0 h1 (by omega) (by omega) (by omega) (by omega) rfl rfl).mono ?_;rintro e w' ⟨rfl,nq,rfl⟩;go_wp2_with fail;go_ret;exact ⟨rfl,nq,rfl⟩
theorem jx (x:EntM) (p:Bool) (w:World) (hx:dS x):
 Calls Tryz.prog 115 #[kW x,.bool p] w fun e w'=>e=.returned (.bool (aW x p))∧Below w.heap.size w w':=by
 obtain ⟨v,lv,tg,asd,gl,pt⟩:=x;obtain ⟨⟨a1,a2⟩,⟨b1,b2⟩,⟨c1,c2⟩,d1,d2⟩:=hx;simp only at a1 a2 b1 b2 c1 c2 d1 d2;unfold kW aW;simp only;have n1:=(Below.refl w.heap.size w).alloc nle (Obj.cells #[.bool v,.int .i64 lv,.int .u64 tg,.int .u64 asd,.bool gl,.int .u64 pt] 153);cases v
 ·cases p;all_goals
   go_enter Tryz.func115,Tryz.ntmps115;go_wp2_with fail;go_quiet (fail);go_wp2_with fail;go_ret;exact ⟨aB (by simp),below_drewN n1 nq⟩
 by_cases h0n:¬(0<=lv)
 ·have h0:=h0n;have h0':decide (0<=lv)=false:=by simpa using h0
  cases p;all_goals
   go_enter Tryz.func115,Tryz.ntmps115;go_wp2_with fail;go_quiet (fail);go_wp2_with fail;go_ret;exact ⟨aB (by simp [h0']),below_drewN n1 nq⟩
 have h0:=Decidable.not_not.1 h0n;clear h0n;by_cases h2n:¬(lv<=2)
 ·have h2:=h2n;have h2':decide (lv<=2)=false:=by simpa using h2
  cases p;all_goals
   go_enter Tryz.func115,Tryz.ntmps115;go_wp2_with fail;go_quiet (fail);go_wp2_with fail;go_ret;exact ⟨aB (by simp [h2']),below_drewN n1 nq⟩
 have h2:=Decidable.not_not.1 h2n;clear h2n;obtain ⟨g5,hg5⟩:∃g5,bj pt 32=g5:=⟨_,rfl⟩;obtain ⟨kd,hkd⟩:∃kd,bu pt lv=kd:=⟨_,rfl⟩;rw [hg5,hkd];have HC5:Hid (∀w:World,Calls Tryz.prog 124 #[.int .u64 pt,.int .i64 5] w fun e w'=>e=.returned (.bool g5)∧∃n,w'=w.drewN n):=fun w=>by
  have:=bO pt 5 32 w d1 d2 (by omega) (by omega) rfl;rw [hg5] at this;exact this
 have HC6:Hid (∀w:World,Calls Tryz.prog 145 #[.int .u64 pt,.int .i64 lv] w fun e w'=>e=.returned (.int .i64 kd)∧∃n,w'=w.drewN n):=fun w=>by
  have:=fj pt lv w d1 d2 a1 a2;rw [hkd] at this;exact this
 clear hg5 hkd;rcases (show lv=0∨lv=1∨lv=2 by omega) with rfl | rfl | rfl
 ·by_cases htn:¬(tg<512)
  ·have ht:=htn;have ht':decide (tg<512)=false:=by simpa using ht
   cases p;all_goals
    go_enter Tryz.func115,Tryz.ntmps115;go_wp2_with fail;go_quiet (first
    | (go_at_call 112;exact Calls.quiet_of_same (bR 9 512 _ (by omega) rfl))
    | (go_at_call 124;exact Calls.quiet_of (HC5.out _))
    | (go_at_call 145;exact Calls.quiet_of (HC6.out _)))
    go_wp2_with fail;go_ret;exact ⟨aB (by simp [jR,gD,ht']),below_drewN n1 nq⟩
  have ht:=Decidable.not_not.1 htn;clear htn;by_cases han:¬(asd<=65535)
  ·have ha:=han;have ha':decide (asd<=65535)=false:=by simpa using ha
   cases p;all_goals
    go_enter Tryz.func115,Tryz.ntmps115;go_wp2_with fail;go_quiet (first
    | (go_at_call 112;exact Calls.quiet_of_same (bR 9 512 _ (by omega) rfl))
    | (go_at_call 124;exact Calls.quiet_of (HC5.out _))
    | (go_at_call 145;exact Calls.quiet_of (HC6.out _)))
    go_wp2_with fail;go_ret;exact ⟨aB (by simp [jR,gD,ht,ha']),below_drewN n1 nq⟩
  have ha:=Decidable.not_not.1 han;clear han;cases p <;> cases gl <;> cases g5;all_goals
   go_enter Tryz.func115,Tryz.ntmps115;go_wp2_with fail;go_quiet (first
    | (go_at_call 112;exact Calls.quiet_of_same (bR 9 512 _ (by omega) rfl))
    | (go_at_call 124;exact Calls.quiet_of (HC5.out _))
    | (go_at_call 145;exact Calls.quiet_of (HC6.out _)))
   go_wp2_with fail;go_ret;exact ⟨aB (by simp [jR,gD,ht,ha]),below_drewN n1 nq⟩
 ·by_cases htn:¬(tg<64)
  ·have ht:=htn;have ht':decide (tg<64)=false:=by simpa using ht
   cases p;all_goals
    go_enter Tryz.func115,Tryz.ntmps115;go_wp2_with fail;go_quiet (first
    | (go_at_call 112;exact Calls.quiet_of_same (bR 6 64 _ (by omega) rfl))
    | (go_at_call 124;exact Calls.quiet_of (HC5.out _))
    | (go_at_call 145;exact Calls.quiet_of (HC6.out _)))
    go_wp2_with fail;go_ret;exact ⟨aB (by simp [jR,gD,ht']),below_drewN n1 nq⟩
  have ht:=Decidable.not_not.1 htn;clear htn;by_cases han:¬(asd<=65535)
  ·have ha:=han;have ha':decide (asd<=65535)=false:=by simpa using ha
   cases p;all_goals
    go_enter Tryz.func115,Tryz.ntmps115;go_wp2_with fail;go_quiet (first
    | (go_at_call 112;exact Calls.quiet_of_same (bR 6 64 _ (by omega) rfl))
    | (go_at_call 124;exact Calls.quiet_of (HC5.out _))
    | (go_at_call 145;exact Calls.quiet_of (HC6.out _)))
    go_wp2_with fail;go_ret;exact ⟨aB (by simp [jR,gD,ht,ha']),below_drewN n1 nq⟩
  have ha:=Decidable.not_not.1 han;clear han;cases p <;> cases gl <;> cases g5;all_goals
   go_enter Tryz.func115,Tryz.ntmps115;go_wp2_with fail;go_quiet (first
    | (go_at_call 112;exact Calls.quiet_of_same (bR 6 64 _ (by omega) rfl))
    | (go_at_call 124;exact Calls.quiet_of (HC5.out _))
    | (go_at_call 145;exact Calls.quiet_of (HC6.out _)))
   go_wp2_with fail;go_ret;exact ⟨aB (by simp [jR,gD,ht,ha]),below_drewN n1 nq⟩
 ·by_cases htn:¬(tg<8)
  ·have ht:=htn;have ht':decide (tg<8)=false:=by simpa using ht
   cases p;all_goals
    go_enter Tryz.func115,Tryz.ntmps115;go_wp2_with fail;go_quiet (first
    | (go_at_call 112;exact Calls.quiet_of_same (bR 3 8 _ (by omega) rfl))
    | (go_at_call 124;exact Calls.quiet_of (HC5.out _))
    | (go_at_call 145;exact Calls.quiet_of (HC6.out _)))
    go_wp2_with fail;go_ret;exact ⟨aB (by simp [jR,gD,ht']),below_drewN n1 nq⟩
  have ht:=Decidable.not_not.1 htn;clear htn;by_cases han:¬(asd<=65535)
  ·have ha:=han;have ha':decide (asd<=65535)=false:=by simpa using ha
   cases p;all_goals
    go_enter Tryz.func115,Tryz.ntmps115;go_wp2_with fail;go_quiet (first
    | (go_at_call 112;exact Calls.quiet_of_same (bR 3 8 _ (by omega) rfl))
    | (go_at_call 124;exact Calls.quiet_of (HC5.out _))
    | (go_at_call 145;exact Calls.quiet_of (HC6.out _)))
    go_wp2_with fail;go_ret;exact ⟨aB (by simp [jR,gD,ht,ha']),below_drewN n1 nq⟩
  have ha:=Decidable.not_not.1 han;clear han;cases p <;> cases gl <;> cases g5;all_goals
   go_enter Tryz.func115,Tryz.ntmps115;go_wp2_with fail;go_quiet (first
    | (go_at_call 112;exact Calls.quiet_of_same (bR 3 8 _ (by omega) rfl))
    | (go_at_call 124;exact Calls.quiet_of (HC5.out _))
    | (go_at_call 145;exact Calls.quiet_of (HC6.out _)))
   go_wp2_with fail;go_ret;exact ⟨aB (by simp [jR,gD,ht,ha]),below_drewN n1 nq⟩
structure Lies (v:World) where
 w:World
 h:Below v.heap.size v w
theorem cM (v:World):Nonempty (Lies v):=⟨⟨v,Below.refl _ _⟩⟩
theorem bV {P:Program} {f:FuncId} {args:Array Value} {v:World} (u:Lies v) {x:Value} (h:Calls P f args u.w fun e w'=>e=.returned x∧Below u.w.heap.size u.w w'):
 Calls P f args u.w fun e w''=>e=.returned x∧∃u':Lies v,w''=u'.w:=
 h.mono fun e w' ⟨he,hb⟩=>⟨he,⟨w',bst u.h hb⟩,rfl⟩
theorem iI {P:Program} {f:FuncId} {args:Array Value} {v:World} (u:Lies v) {x:Value} (h:Calls P f args u.w fun e w'=>e=.returned x∧w'=u.w):
 Calls P f args u.w fun e w''=>e=.returned x∧∃u':Lies v,w''=u'.w:=
 h.mono fun e w' ⟨he,hb⟩=>⟨he,u,hb⟩
theorem rW {P:Program} {f:FuncId} {args:Array Value} {v:World} (u:Lies v) {x:Value} (h:Calls P f args u.w fun e w'=>e=.returned x∧∃n,w'=u.w.drewN n):
 Calls P f args u.w fun e w''=>e=.returned x∧∃u':Lies v,w''=u'.w:=
 h.mono fun e w' ⟨he,n,hb⟩=>⟨he,⟨w',by rw [hb];exact below_drewN u.h n⟩,rfl⟩
theorem aA {v:World} {b o:Nat} {x:Value} (hc:v.cell? ⟨b,o,none⟩=some x) (hb:b<v.heap.size) (u:Lies v):u.w.cell? ⟨b,o,none⟩=some x:=Below.cell2 u.h hc hb
theorem bM {P:Program} {id:Nat} {Q:Exit->Act->World->Prop} {a:Act} {w:World} {l:List Oper} (hm:P.follows .mixedOrders=true) (hB:Region.lexB .any l.toArray=true)
 (h:wpQuiet P l.toArray (fun w'=>∃u:Lies w,w'=u.w) (fun a'=>∀w',(∃u:Lies w,w'=u.w)->Q .normal a' w') l a):(Code.region id l.toArray true).wp P Q a w:=
 wp_region_quiet (C:=fun w'=>∃u:Lies w,w'=u.w) hm hB ⟨⟨w.drew,(Below.refl _ _).drew⟩,rfl⟩ (by simpa using h)
section
attribute [local go_sem ↓] Go.wp_at_zero Go.wp_at_succ
def az:List EntM->List Value
 | []=>[]
 | e::r=>gk e++az r
def TlbAt (w:World) (v:Value) (t:TlbM):Prop:=
 ∃a cap,v=.agg #[.int .i64 t.sets,.int .i64 t.ways,.slice a t.es.length cap]∧RowC w a t.es.length 6 (az t.es)∧(∀e∈t.es,dS e)∧
  (-9223372036854775808<=t.sets∧t.sets<=9223372036854775807)∧(-9223372036854775808<=t.ways∧t.ways<=9223372036854775807)∧t.es.length<=1048576∧t.es.length<=cap∧cap<=9223372036854775807∧(a=none->t.es.length=0∧cap=0)∧(∀q,a=some q->q.spot=none)
theorem eo:∀es:List EntM,(az es).length=es.length*6
 | []=>rfl
 | e::r=>by simp [az,gk,eo r];omega
theorem jV:∀(es:List EntM) (i j:Nat) (hi:i<es.length),j<6->(az es)[i*6+j]?=(gk es[i])[j]?
 | e::r,0,j,hi,hj=>by
  simp only [az,List.getElem_cons_zero,Nat.zero_mul,Nat.zero_add];rw [List.getElem?_append_left (by simp [gk];exact hj)]
 | e::r,i+1,j,hi,hj=>by
  simp only [az,List.getElem_cons_succ];rw [List.getElem?_append_right (by simp [gk];omega)];have:(i+1)*6+j-(gk e).length=i*6+j:=by simp [gk];omega
  rw [this];exact jV r i j (by simpa using hi) hj
def iE (t:TlbM):Bool:=decide ((t.sets=1∨t.sets=2∨t.sets=4∨t.sets=8)∧1<=t.ways∧t.ways<=4∧(t.es.length:Int)=t.sets*t.ways)
def bZ (t:TlbM) (p:Bool) (i:Nat) (e:EntM):Bool:=
 (e.valid == false && e.level == 0 && e.tag == 0 && e.asid == 0 && e.glob == false && e.pte == 0) || (aW e p && (e.tag%t.sets == (i:Int)/t.ways))
def eO (t:TlbM) (p:Bool):Nat->List EntM->Bool
 | _,[]=>true
 | i,e::r=>bZ t p i e && eO t p (i+1) r
def aL (t:TlbM) (p:Bool):Bool:=iE t && eO t p 0 t.es
theorem fP (t:TlbM) (p:Bool):∀(es:List EntM) (i:Nat),(∀j x,es[j]?=some x->bZ t p (i+j) x=true)->eO t p i es=true
 | [],i,h=>rfl
 | e::r,i,h=>by
  simp only [eO,Bool.and_eq_true];refine ⟨by simpa using h 0 e rfl,fP t p r (i+1) (fun j x hx=>?_)⟩;have:=h (j+1) x (by simpa using hx);rw [show i+1+j=i+(j+1) by omega];exact this
theorem gt (t:TlbM) (p:Bool):∀(es:List EntM) (i j:Nat) (x:EntM),es[j]?=some x->bZ t p (i+j) x=false->eO t p i es=false
 | e::r,i,0,x,hx,h=>by
  simp at hx;subst hx;simp only [eO,Nat.add_zero] at h |-;rw [h];rfl
 | e::r,i,j+1,x,hx,h=>by
  simp only [eO];rw [gt t p r (i+1) j x (by simpa using hx) (by rw [show i+1+j=i+(j+1) by omega];exact h),Bool.and_false]
theorem uJ {x:EntM} {p:Bool} (h:aW x p=true):x.tag<512:=by
 simp only [aW,Bool.and_eq_true,decide_eq_true_eq] at h;have h1:=h.1.1.1.2;unfold jR at h1;split at h1
 ·exact h1
 ·split at h1 <;> omega
theorem dy {w:World} {b off n:Nat} {es:List EntM} (h:RowC w (some ⟨b,off,none⟩) n 6 (az es)) (hn:es.length=n) (k:Nat) (x:EntM) (hx:es[k]?=some x) (j:Nat) (v:Value) (hj:j<6) (hv:(gk x)[j]?=some v):
 w.cell? ⟨b,off+(k*6+j),none⟩=some v:=by
 have hk:=(List.getElem?_eq_some_iff.1 hx).1;rcases h.2 with h0 | ⟨b',off',e,_,hc⟩
 ·omega
 ·simp at e;obtain ⟨rfl,rfl⟩:=e;refine hc _ _ ?_;rw [jV es k j hk hj];rw [List.getElem?_eq_getElem hk] at hx;simp at hx;rw [hx];exact hv
theorem uK (s:Int) (hs:s=1∨s=2∨s=4∨s=8) (b off:Nat) (cap:Nat) (ways:Int) (es:List EntM) (n:Nat) (p:Bool) (w:World) (hr:RowC w (some ⟨b,off,none⟩) n 6 (az es)) (he:∀e∈es,dS e) (hl:n<=1048576) (hN:es.length=n)
 (hw:1<=ways) (hw':ways<=4) (hn:(n:Int)=s*ways):
  Calls Tryz.prog 82 #[.agg #[.int .i64 s,.int .i64 ways,.slice (some ⟨b,off,none⟩) n cap],.bool p] w fun e w'=>e=.returned (.bool (eO ⟨s,ways,es⟩ p 0 es))∧Below w.heap.size w w':=by
 have a1:=eY w #[.int .i64 s,.int .i64 ways,.slice (some ⟨b,off,none⟩) n cap] 35;have hn':((n:Int) != s*ways)=false:=by rw [bne_eq_false_iff_eq];omega
 have HN:Hid (es.length=n):=hN;have HR:=hid hr;have HE:=hid he;obtain ⟨R,hR⟩:∃R,eO ⟨s,ways,es⟩ p 0 es=R:=⟨_,rfl⟩;rw [hR];have HP:=hid hR;clear hN hr he hn hR;go_enter Tryz.func82,Tryz.ntmps82;go_upto_region 1 with fail;generalize w.alloc (Obj.cells #[.int .i64 s,.int .i64 ways,.slice (some ⟨b,off,none⟩) n cap] 35)=v1 at a1 |-;obtain ⟨l1,c1,n1⟩:=a1;have c10:=c1 0;have c11:=c1 1;have c12:=c1 2;clear c1;go_cut [45] from 7 to 44 (fun x wx=>x=.bool false∧v1=wx)
 case first=>
  clear HP;rcases hs with rfl | rfl | rfl | rfl <;> (try simp only [Int.one_mul] at hn') <;> (go_wp2_with fail;go_meet;case rel=>exact ⟨by first | rfl | (rw [hn'];done) | (simp;omega),rfl⟩)
 case rest=>
 obtain ⟨rfl,rfl⟩:=hcut;go_wp2_with fail;go_loopw [5] (fun i wr=>∃k:Nat,k<=n∧i=.int .i64 k∧(∀j x,j<k->es[j]?=some x->bZ ⟨s,ways,es⟩ p j x=true)∧Below v1.heap.size v1 wr) (fun i _=>n-(intOf i).toNat)
 case atStart=>exact ⟨0,Nat.zero_le _,rfl,fun j x hj=>absurd hj (by omega),Below.refl _ _⟩
 case round=>
  obtain ⟨k,hk,rfl,hall,hb⟩:=hrel;have HA:=hid hall;clear hall;have d10:=Below.cell2 hb c10 l1;have d11:=Below.cell2 hb c11 l1;have d12:=Below.cell2 hb c12 l1;have l2:=Nat.lt_of_lt_of_le l1 hb.size;have n1r:=bst n1 hb;by_cases hlt:k<n
  ·have hx:∃x:EntM,es[k]?=some x:=⟨_,List.getElem?_eq_getElem (by have:=HN.out;omega)⟩;obtain ⟨⟨v,lv,tg,asd,gl,pt⟩,hx⟩:=hx;have hok:dS ⟨v,lv,tg,asd,gl,pt⟩:=HE.out _ (List.mem_of_getElem? hx);have HRr:=RowC.keep HR.out n1r;have g0:wr.cell? ⟨b,off+k*6,none⟩=some (.bool v):=dy HRr HN.out k _ hx 0 _ (by omega) rfl;have g1:wr.cell? ⟨b,off+k*6+1,none⟩=some (.int .i64 lv):=dy HRr HN.out k _ hx 1 _ (by omega) rfl;have g2:wr.cell? ⟨b,off+k*6+2,none⟩=some (.int .u64 tg):=dy HRr HN.out k _ hx 2 _ (by omega) rfl;have g3:wr.cell? ⟨b,off+k*6+3,none⟩=some (.int .u64 asd):=dy HRr HN.out k _ hx 3 _ (by omega) rfl;have g4:wr.cell? ⟨b,off+k*6+4,none⟩=some (.bool gl):=dy HRr HN.out k _ hx 4 _ (by omega) rfl;have g5:wr.cell? ⟨b,off+k*6+5,none⟩=some (.int .u64 pt):=dy HRr HN.out k _ hx 5 _ (by omega) rfl;have HX:Hid (es[k]?=some ⟨v,lv,tg,asd,gl,pt⟩):=hx;have HPf:Hid (bZ ⟨s,ways,es⟩ p k ⟨v,lv,tg,asd,gl,pt⟩=false->false=R):=fun h=>by rw [<-HP.out];exact (gt _ p es 0 k _ hx (by rw [Nat.zero_add];exact h)).symm
   have HPt:Hid (bZ ⟨s,ways,es⟩ p k ⟨v,lv,tg,asd,gl,pt⟩=true->∀j x,j<k+1->es[j]?=some x->bZ ⟨s,ways,es⟩ p j x=true):=fun h j x hj hx'=>by
    by_cases e:j=k
    ·subst e;rw [hx] at hx';cases hx';exact h
    ·exact HA.out j x (by omega) hx'
   clear hx HRr;have a2:=eY wr #[.bool v,.int .i64 lv,.int .u64 tg,.int .u64 asd,.bool gl,.int .u64 pt] 153;go_wp2_with fail;generalize wr.alloc (Obj.cells #[.bool v,.int .i64 lv,.int .u64 tg,.int .u64 asd,.bool gl,.int .u64 pt] 153)=v2 at a2 |-;obtain ⟨l3,c2,n2⟩:=a2;have k0:=aA (c2 0) l3;have k1:=aA (c2 1) l3;have k2:=aA (c2 2) l3;have k3:=aA (c2 3) l3;have k4:=aA (c2 4) l3;have k5:=aA (c2 5) l3;have j0:=aA (Below.cell2 n2 d10 l2) (Nat.lt_trans l2 l3);have j1:=aA (Below.cell2 n2 d11 l2) (Nat.lt_trans l2 l3);have hb2:=bst hb n2;have n12:=bst n1 hb2;have ne:=cM v2;clear c2 d10 d11 d12 hb n2 g0 g1 g2 g3 g4 g5 c10 c11 c12 n1r;obtain ⟨gd,hgd⟩:∃gd,aW ⟨v,lv,tg,asd,gl,pt⟩ p=gd:=⟨_,rfl⟩;have HGd:Hid (∀u:Lies v2,Calls Tryz.prog 115 #[kW ⟨v,lv,tg,asd,gl,pt⟩,.bool p] u.w fun e w'=>e=.returned (.bool gd)∧Below u.w.heap.size u.w w'):=fun u=>by
    have:=jx ⟨v,lv,tg,asd,gl,pt⟩ p u.w hok;rw [hgd] at this;exact this
   have HGv:Hid (aW ⟨v,lv,tg,asd,gl,pt⟩ p=gd):=hgd;clear hgd;cases v
   ·have hgf:gd=false:=by rw [<-HGv.out];simp [aW]
    subst hgf;by_cases q1n:¬(lv=0)
    ·have q1:(lv == 0)=false:=by simpa using q1n
     have HQ:Hid ((lv == 0)=false):=q1;clear q1n;refine bM (by kernel_rfl) (by kernel_rfl) ?_;repeat (go_big_quiet_step ((go_at_call 115;exact bV _ (HGd.out _))))
     refine wpQuiet_nil ?_;rintro _ ⟨u,rfl⟩;go_wp2_with fail;go_ret;exact ⟨aB (HPf.out (by simp [bZ,HGv.out,HQ.out])),bst n12 u.h⟩
    have q1z:lv=0:=Decidable.not_not.1 q1n;subst q1z;clear q1n;by_cases q2n:¬(tg=0)
    ·have q2:(tg == 0)=false:=by simpa using q2n
     have HQ:Hid ((tg == 0)=false):=q2;clear q2n;refine bM (by kernel_rfl) (by kernel_rfl) ?_;repeat (go_big_quiet_step ((go_at_call 115;exact bV _ (HGd.out _))))
     refine wpQuiet_nil ?_;rintro _ ⟨u,rfl⟩;go_wp2_with fail;go_ret;exact ⟨aB (HPf.out (by simp [bZ,HGv.out,HQ.out])),bst n12 u.h⟩
    have q2z:tg=0:=Decidable.not_not.1 q2n;subst q2z;clear q2n;by_cases q3n:¬(asd=0)
    ·have q3:(asd == 0)=false:=by simpa using q3n
     have HQ:Hid ((asd == 0)=false):=q3;clear q3n;refine bM (by kernel_rfl) (by kernel_rfl) ?_;repeat (go_big_quiet_step ((go_at_call 115;exact bV _ (HGd.out _))))
     refine wpQuiet_nil ?_;rintro _ ⟨u,rfl⟩;go_wp2_with fail;go_ret;exact ⟨aB (HPf.out (by simp [bZ,HGv.out,HQ.out])),bst n12 u.h⟩
    have q3z:asd=0:=Decidable.not_not.1 q3n;subst q3z;clear q3n;cases hgl:gl
    ·subst hgl;by_cases q5n:¬(pt=0)
     ·have q5:(pt == 0)=false:=by simpa using q5n
      have HQ:Hid ((pt == 0)=false):=q5;clear q5n;refine bM (by kernel_rfl) (by kernel_rfl) ?_;repeat (go_big_quiet_step ((go_at_call 115;exact bV _ (HGd.out _))))
      refine wpQuiet_nil ?_;rintro _ ⟨u,rfl⟩;go_wp2_with fail;go_ret;exact ⟨aB (HPf.out (by simp [bZ,HGv.out,HQ.out])),bst n12 u.h⟩
     have q5z:pt=0:=Decidable.not_not.1 q5n;subst q5z;clear q5n;refine bM (by kernel_rfl) (by kernel_rfl) ?_;repeat (go_big_quiet_step ((go_at_call 115;exact bV _ (HGd.out _))))
     refine wpQuiet_nil ?_;rintro _ ⟨u,rfl⟩;go_wp2_with fail;go_roundw
     case rel=>exact ⟨k+1,by omega,by go_num,HPt.out (by simp [bZ]),bst hb2 u.h⟩
     case measure=>simp [intOf];omega
    ·subst hgl;refine bM (by kernel_rfl) (by kernel_rfl) ?_;repeat (go_big_quiet_step ((go_at_call 115;exact bV _ (HGd.out _))))
     refine wpQuiet_nil ?_;rintro _ ⟨u,rfl⟩;go_wp2_with fail;go_ret;exact ⟨aB (HPf.out (by simp [bZ,HGv.out])),bst n12 u.h⟩
   ·cases gd
    ·
     refine bM (by kernel_rfl) (by kernel_rfl) ?_;repeat (go_big_quiet_step ((go_at_call 115;exact bV _ (HGd.out _))))
     refine wpQuiet_nil ?_;rintro _ ⟨u,rfl⟩;go_wp2_with fail;go_ret;exact ⟨aB (HPf.out (by simp [bZ,HGv.out])),bst n12 u.h⟩
    ·have htg:tg<512:=uJ HGv.out;have htg0:0<=tg:=hok.2.1.1;have hd0:0<=(k:Int)/ways:=Int.ediv_nonneg (by omega) (by omega);have hd1:(k:Int)/ways<=1048576:=Int.le_trans (Int.ediv_le_self _ (by omega)) (by omega);by_cases hq:tg%s=(k:Int)/ways
     ·have hq':(tg%s != (k:Int)/ways)=false:=by rw [bne_eq_false_iff_eq];exact hq
      have HQ:Hid (tg%s=(k:Int)/ways):=hq;clear hq;rcases hs with rfl | rfl | rfl | rfl;all_goals
       try rw [Int.emod_one] at hq'
       refine bM (by kernel_rfl) (by kernel_rfl) ?_;repeat (go_big_quiet_step ((go_at_call 115;exact bV _ (HGd.out _))))
       refine wpQuiet_nil ?_;rintro _ ⟨u,rfl⟩;go_wp2_with fail;go_roundw
       case rel=>exact ⟨k+1,by omega,by go_num,HPt.out (by have hz:=HQ.out;first | (simp [bZ,HGv.out,hz];done) | (rw [Int.emod_one] at hz;simp [bZ,HGv.out,hz])),bst hb2 u.h⟩
       case measure=>simp [intOf];omega
     ·have hq':(tg%s != (k:Int)/ways)=true:=by rw [bne_iff_ne];exact hq
      have HQ:Hid (¬tg%s=(k:Int)/ways):=hq;clear hq;rcases hs with rfl | rfl | rfl | rfl;all_goals
       try rw [Int.emod_one] at hq'
       refine bM (by kernel_rfl) (by kernel_rfl) ?_;repeat (go_big_quiet_step ((go_at_call 115;exact bV _ (HGd.out _))))
       refine wpQuiet_nil ?_;rintro _ ⟨u,rfl⟩;go_wp2_with fail;go_ret;exact ⟨aB (HPf.out (by have hz:=HQ.out;first | (simp [bZ,hz];done) | (rw [Int.emod_one] at hz;simp [bZ,hz]))),bst n12 u.h⟩
  ·have hkn:k=n:=by omega
   subst hkn;have HT:Hid (true=R):=by
    show true=R;rw [<-HP.out];exact (fP _ p es 0 (fun j x hx=>by rw [Nat.zero_add];exact HA.out j x (by have h1:=(List.getElem?_eq_some_iff.1 hx).1;have h2:=HN.out;omega) hx)).symm
   clear c10 c11 c12 n1 d10 d11;go_wp2_with fail;go_ret;exact ⟨aB HT.out,n1r⟩
end
structure FenceM where
 hasVa:Bool
 va:Int
 hasAsid:Bool
 asid:Int
def gu (f:FenceM) (level tag asid:Int) (glob:Bool):Bool:=
 !(f.hasVa && (!cP f.va || tag != eF f.va level)) && (!f.hasAsid || (!glob && asid == f.asid))
def bT (f:FenceM) (e:EntM):EntM:=if (e.valid && gu f e.level e.tag e.asid e.glob)=true then cO else e
def ke (es:List EntM) (first:Nat):Nat->Nat->Option Nat
 | _,0=>none
 | w,left+1=>if (es[first+w]?.getD cO).valid=false then some w else ke es first (w+1) left
section
attribute [local go_sem ↓] Go.wp_at_zero Go.wp_at_succ
theorem Tryz.infoEnt:(Tryz.prog.info? 153).map (fun i=>(i.zero,i.size,i.bytes))=some (some (.agg #[.bool false,.int .i64 0,.int .u64 0,.int .u64 0,.bool false,.int .u64 0]),6,48):=by kernel_rfl
theorem rZ:∀es:List EntM,∀u∈az es,u.oneCell'=true
 | [],u,h=>by simp [az] at h
 | e::r,u,h=>by
  simp only [az,List.mem_append] at h;rcases h with h | h
  ·simp [gk] at h;rcases h with rfl | rfl | rfl | rfl | rfl | rfl <;> rfl
  ·exact rZ r u h
def TlbOwn (base:Nat) (w:World) (v:Value) (t:TlbM):Prop:=
 ∃g cap,v=.agg #[.int .i64 t.sets,.int .i64 t.ways,.slice (some ⟨g,0,none⟩) t.es.length cap]∧w.ownsRow base 153 6 (.slice (some ⟨g,0,none⟩) t.es.length cap) t.es.length (az t.es)
theorem gc (v:Value) (t:TlbM) (w:World) (h:TlbAt w v t):
 Calls Tryz.prog 84 #[v] w fun e w'=>(∃x,e=.returned x∧TlbOwn w.heap.size w' x t)∧Below w.heap.size w w':=by
 have HT:=hid h;obtain ⟨a,cap,rfl,hr,_,_,_,hl,hlc,hcm,hnil,hsp⟩:=h;obtain ⟨sets,ways,es⟩:=t;obtain ⟨n,hn⟩:∃n,es.length=n:=⟨_,rfl⟩;simp only at hr hl hlc hnil |-;rw [hn] at hr hl hlc hnil |-;have n1:=((Below.refl w.heap.size w).alloc nle (Obj.cells #[.int .i64 sets,.int .i64 ways,.slice a n cap] 35)).alloc (by simp) (Obj.cells #[.int .i64 0,.int .i64 0,.slice none 0 0] 35);have HR1:=hid (hr.keep n1);have H1:Hid (((w.alloc (Obj.cells #[.int .i64 sets,.int .i64 ways,.slice a n cap] 35)).alloc (Obj.cells #[.int .i64 0,.int .i64 0,.slice none 0 0] 35)).heap[w.heap.size]?=some (.cells #[.int .i64 sets,.int .i64 ways,.slice a n cap] 35 (0,0))):=by
  show _=_;rw [heap_alloc_old _ _ (by simp)];exact heap_alloc_new w _
 have H2:Hid (((w.alloc (Obj.cells #[.int .i64 sets,.int .i64 ways,.slice a n cap] 35)).alloc (Obj.cells #[.int .i64 0,.int .i64 0,.slice none 0 0] 35)).heap[w.heap.size+1]?=some (.cells #[.int .i64 0,.int .i64 0,.slice none 0 0] 35 (0,0))):=by
  have:=heap_alloc_new (w.alloc (Obj.cells #[.int .i64 sets,.int .i64 ways,.slice a n cap] 35)) (Obj.cells #[.int .i64 0,.int .i64 0,.slice none 0 0] 35);simp only [World.size_alloc] at this;exact this
 have l1:w.heap.size+1<((w.alloc (Obj.cells #[.int .i64 sets,.int .i64 ways,.slice a n cap] 35)).alloc (Obj.cells #[.int .i64 0,.int .i64 0,.slice none 0 0] 35)).heap.size:=by simp
 have HN:=hid hnil;have HSp:=hid hsp;clear hr hnil hsp HT;go_enter Tryz.func84,Tryz.ntmps84;go_wp2_with fail;generalize ((w.alloc (Obj.cells #[.int .i64 sets,.int .i64 ways,.slice a n cap] 35)).alloc (Obj.cells #[.int .i64 0,.int .i64 0,.slice none 0 0] 35))=v1 at n1 HR1 H1 H2 l1 |-;obtain ⟨⟨c0,c1,c2⟩,_,_,_⟩:=ay H1.out;obtain ⟨⟨d0,d1,d2⟩,e0,e1,e2⟩:=ay H2.out;have ne1:v1.heap.size≠w.heap.size:=by omega
 have ne2:w.heap.size≠v1.heap.size:=by omega
 have ne3:v1.heap.size≠w.heap.size+1:=by omega
 have ne4:w.heap.size+1≠v1.heap.size:=by omega
 have n2:=((Below.refl v1.heap.size v1).alloc nle (Obj.cells #[] 153)).drew;go_region_held3 (fun w'=>w'.cell? ⟨w.heap.size,0,none⟩=some (.int .i64 sets)∧w'.cell? ⟨w.heap.size,1,none⟩=some (.int .i64 ways)∧w'.cell? ⟨w.heap.size,2,none⟩=some (.slice a n cap)) (go_keep)
  (first
   | (refine kX _ (by rfl) (.tmp 7) (.tmp 9) 33 (by rfl) 153 Tryz.underlying33 (.agg #[.bool false,.int .i64 0,.int .u64 0,.int .u64 0,.bool false,.int .u64 0]) 6 48 Tryz.infoEnt (by rfl) (by decide) v1.heap.size v1.heap.size 0 0 [] (by rfl) (OwnC.new 153 6 v1.drew [] 0 (by rfl) (by decide)) a n cap (az es) (by rfl) HN.out HSp.out (RowC.keep HR1.out n2) (rZ es) (by omega) (by omega) v1.heap.size v1 n2 nle ?_;intro g3 c3 v3 o3 n3;have k1:=ay (ae H1.out n3 (by omega));have k2:=ay (ae H2.out n3 l1);obtain ⟨⟨q0,q1,q2⟩,_,_,_⟩:=k1;obtain ⟨⟨j0,j1,j2⟩,i0,i1,i2⟩:=k2;have l3:=n3.size;have O3:Hid (OwnC 153 6 v3 v1.heap.size g3 (0+n) c3 ([]++az es)):=o3;clear o3))
 go_wp2_with fail;have O4:v3.ownsRow v1.heap.size 153 6 (.slice (some ⟨g3,0,none⟩) n c3) n (az es):=by
  have:=O3.out;rw [Nat.zero_add,List.nil_append] at this;exact this
 refine bodyPost_ret (v:=.agg #[.int .i64 sets,.int .i64 ways,.slice (some ⟨g3,0,none⟩) n c3]) (by simp [results,Tryz.results84,go_sem,j0,j1,j2]) rfl ⟨⟨_,rfl,g3,c3,by rw [hn],?_⟩,fu (bst n1 n3) (by omega) _ _ _⟩;rw [hn];exact aK (bX O4 (gb3 v3 (w.heap.size+1) _ _ _) l1) (by omega)
theorem TlbOwn.row {base:Nat} {w:World} {v:Value} {t:TlbM} (h:TlbOwn base w v t):∃g cap,v=.agg #[.int .i64 t.sets,.int .i64 t.ways,.slice (some ⟨g,0,none⟩) t.es.length cap]∧RowC w (some ⟨g,0,none⟩) t.es.length 6 (az t.es)∧base<=g∧g<w.heap.size:=by
 obtain ⟨g,cap,rfl,ho⟩:=h;have:=bC ho;exact ⟨g,cap,rfl,dv ho,this.2.1,this.2.2⟩
theorem TlbOwn.keep {base:Nat} {w w':World} {v:Value} {t:TlbM} (h:TlbOwn base w v t) (hb:Below w.heap.size w w'):TlbOwn base w' v t:=by
 obtain ⟨g,cap,rfl,ho⟩:=h;exact ⟨g,cap,rfl,ag ho hb⟩
def eh (t:TlbM):Prop:=
 (∀e∈t.es,dS e)∧(-9223372036854775808<=t.sets∧t.sets<=9223372036854775807)∧(-9223372036854775808<=t.ways∧t.ways<=9223372036854775807)∧t.es.length<=1048576
theorem TlbAt.ok {w:World} {v:Value} {t:TlbM} (h:TlbAt w v t):eh t:=by
 obtain ⟨a,cap,_,_,h1,h2,h3,h4,_⟩:=h;exact ⟨h1,h2,h3,h4⟩
theorem TlbOwn.at {base:Nat} {w:World} {v:Value} {t:TlbM} (h:TlbOwn base w v t) (hk:eh t):TlbAt w v t:=by
 obtain ⟨g,cap,rfl,ho⟩:=h;have hr:=dv ho;rcases ho.2 with ⟨h2,_⟩ | ⟨g',cap',cur,h2,hb,hg,hc1,hc2,_⟩
 ·cases h2
 ·cases h2;exact ⟨some ⟨g,0,none⟩,cap,rfl,hr,hk.1,hk.2.1,hk.2.2.1,hk.2.2.2,hc1,by unfold maxLen at hc2;omega,(by intro h;cases h),(by intro q hq;cases hq;rfl)⟩
end
section
attribute [local go_sem ↓] Go.wp_at_zero Go.wp_at_succ
def tw (f:FenceM):Value:=.agg #[.bool f.hasVa,.int .u64 f.va,.bool f.hasAsid,.int .u64 f.asid]
theorem tz (f:FenceM) (level tag asid:Int) (glob:Bool) (w:World) (h0:0<=f.va) (h1:f.va<=18446744073709551615) (hl0:0<=level) (hl2:level<=2):
 Calls Tryz.prog 163 #[tw f,.int .i64 level,.int .u64 tag,.int .u64 asid,.bool glob] w fun e w'=>e=.returned (.bool (gu f level tag asid glob))∧Below w.heap.size w w':=by
 obtain ⟨hv,va,ha,fa⟩:=f;simp only at h0 h1;unfold tw;simp only;have n1:=(Below.refl w.heap.size w).alloc nle (Obj.cells #[.bool hv,.int .u64 va,.bool ha,.int .u64 fa] 64);obtain ⟨cn,hcn⟩:∃cn,cP va=cn:=⟨_,rfl⟩;obtain ⟨tv,htv⟩:∃tv,eF va level=tv:=⟨_,rfl⟩;have HC:Hid (∀w:World,Calls Tryz.prog 149 #[.int .u64 va] w fun e w'=>e=.returned (.bool cn)∧∃n,w'=w.drewN n):=fun w=>by
  have:=dQ va w h0 h1;rw [hcn] at this;exact this
 have HT:Hid (∀w:World,Calls Tryz.prog 176 #[.int .u64 va,.int .i64 level] w fun e w'=>e=.returned (.int .u64 tv)∧∃n,w'=w.drewN n):=fun w=>by
  have:=qz va level w h0 h1 hl0 hl2;rw [htv] at this;exact this
 obtain ⟨R,hR⟩:∃R,gu ⟨hv,va,ha,fa⟩ level tag asid glob=R:=⟨_,rfl⟩;rw [hR];have HR:Hid (R=(!(hv && (!cn || tag != tv)) && (!ha || (!glob && asid == fa)))):=by
  show _=_;rw [<-hR,<-hcn,<-htv];rfl
 clear hR hcn htv;cases hv
 ·cases ha <;> cases glob;all_goals
   go_enter Tryz.func163,Tryz.ntmps163;go_wp2_with fail;go_ret;exact ⟨aB (by rw [HR.out];simp),n1⟩
 ·cases cn
  ·go_enter Tryz.func163,Tryz.ntmps163;go_wp2_with (go_at_call 149;refine (HC.out _).mono ?_;rintro e w' ⟨rfl,nq,rfl⟩);go_ret;exact ⟨aB (by rw [HR.out];simp),below_drewN n1 _⟩
  ·cases ht:(tag != tv)
   ·cases ha <;> cases glob;all_goals
     go_enter Tryz.func163,Tryz.ntmps163;go_wp2_with (first
      | (go_at_call 149;refine (HC.out _).mono ?_;rintro e w' ⟨rfl,nq,rfl⟩)
      | (go_at_call 176;refine (HT.out _).mono ?_;rintro e w' ⟨rfl,nr,rfl⟩))
     go_ret;exact ⟨aB (by rw [HR.out,ht];simp),below_drewN n1 (nq+nr)⟩
   ·go_enter Tryz.func163,Tryz.ntmps163;go_wp2_with (first
     | (go_at_call 149;refine (HC.out _).mono ?_;rintro e w' ⟨rfl,nq,rfl⟩)
     | (go_at_call 176;refine (HT.out _).mono ?_;rintro e w' ⟨rfl,nr,rfl⟩))
    go_ret;exact ⟨aB (by rw [HR.out,ht];simp),below_drewN n1 (nq+nr)⟩
end
theorem tq (a:Option Addr) (n cap:Nat) (sets ways:Int) (p:Bool) (w:World) (hl:n<=1048576) (hs: -9223372036854775808<=sets∧sets<=9223372036854775807) (hw: -9223372036854775808<=ways∧ways<=9223372036854775807)
 (h:¬((sets=1∨sets=2∨sets=4∨sets=8)∧1<=ways∧ways<=4∧(n:Int)=sets*ways)):
 Calls Tryz.prog 82 #[.agg #[.int .i64 sets,.int .i64 ways,.slice a n cap],.bool p] w fun e w'=>e=.returned (.bool false)∧Below w.heap.size w w':=by
 by_cases h1:sets=1∨sets=2∨sets=4∨sets=8
 ·by_cases h2:ways<1
  ·rcases h1 with rfl | rfl | rfl | rfl;all_goals
    go_enter Tryz.func82,Tryz.ntmps82;go_wp2_with fail;go_ret;exact ⟨rfl,(Below.refl _ _).alloc nle _⟩
  by_cases h3:4<ways
  ·rcases h1 with rfl | rfl | rfl | rfl;all_goals
    go_enter Tryz.func82,Tryz.ntmps82;go_wp2_with fail;go_ret;exact ⟨rfl,(Below.refl _ _).alloc nle _⟩
  rcases h1 with rfl | rfl | rfl | rfl
  ·have h4:((n:Int) != ways)=true:=by rw [bne_iff_ne];omega
   clear h;go_enter Tryz.func82,Tryz.ntmps82;go_wp2_with fail;go_ret;exact ⟨rfl,(Below.refl _ _).alloc nle _⟩
  ·have h4:((n:Int) != 2*ways)=true:=by rw [bne_iff_ne];omega
   clear h;go_enter Tryz.func82,Tryz.ntmps82;go_wp2_with fail;go_ret;exact ⟨rfl,(Below.refl _ _).alloc nle _⟩
  ·have h4:((n:Int) != 4*ways)=true:=by rw [bne_iff_ne];omega
   clear h;go_enter Tryz.func82,Tryz.ntmps82;go_wp2_with fail;go_ret;exact ⟨rfl,(Below.refl _ _).alloc nle _⟩
  ·have h4:((n:Int) != 8*ways)=true:=by rw [bne_iff_ne];omega
   clear h;go_enter Tryz.func82,Tryz.ntmps82;go_wp2_with fail;go_ret;exact ⟨rfl,(Below.refl _ _).alloc nle _⟩
 ·have q1:(sets != 1)=true:=by rw [bne_iff_ne];omega
  have q2:(sets != 2)=true:=by rw [bne_iff_ne];omega
  have q4:(sets != 4)=true:=by rw [bne_iff_ne];omega
  have q8:(sets != 8)=true:=by rw [bne_iff_ne];omega
  clear h h1;go_enter Tryz.func82,Tryz.ntmps82;go_wp2_with fail;go_ret;exact ⟨rfl,(Below.refl _ _).alloc nle _⟩
theorem eM (v:Value) (t:TlbM) (p:Bool) (w:World) (h:TlbAt w v t):
 Calls Tryz.prog 82 #[v,.bool p] w fun e w'=>e=.returned (.bool (aL t p))∧Below w.heap.size w w':=by
 obtain ⟨a,cap,rfl,hr,he,hs,hw,hl,hlc,hcm,hnil,hsp⟩:=h;obtain ⟨sets,ways,es⟩:=t;simp only at hr he hs hw hl hlc hnil |-;by_cases hsh:(sets=1∨sets=2∨sets=4∨sets=8)∧1<=ways∧ways<=4∧(es.length:Int)=sets*ways
 ·have hv:aL ⟨sets,ways,es⟩ p=eO ⟨sets,ways,es⟩ p 0 es:=by simp only [aL,iE];rw [decide_eq_true hsh,Bool.true_and]
  rw [hv];obtain ⟨h1,h2,h3,h4⟩:=hsh;obtain ⟨b,off,rfl⟩:∃b off,a=some ⟨b,off,none⟩:=by
   rcases hr.2 with h0 | ⟨b,off,rfl,_,_⟩
   ·rw [h0] at h4;rcases h1 with rfl | rfl | rfl | rfl <;> simp at h4 <;> omega
   ·exact ⟨b,off,rfl⟩
  exact uK sets h1 b off cap ways es es.length p w hr he hl rfl h2 h3 h4
 ·have hv:aL ⟨sets,ways,es⟩ p=false:=by simp only [aL,iE];rw [decide_eq_false hsh,Bool.false_and]
  rw [hv];exact tq a es.length cap sets ways p w hl hs hw hsh
section
attribute [local go_sem ↓] Go.wp_at_zero Go.wp_at_succ
theorem TlbAt.keep {w w':World} {v:Value} {t:TlbM} (h:TlbAt w v t) (hb:Below w.heap.size w w'):TlbAt w' v t:=by
 obtain ⟨a,cap,rfl,hr,r⟩:=h;exact ⟨a,cap,rfl,hr.keep hb,r⟩
def ej (t:TlbM):Bool:=aL t true || aL t false
def jS (x:EntM) (va asid:Int):Bool:=x.valid && (x.tag == eF va x.level) && (x.glob || x.asid == asid)
theorem mz (v:Value) (t:TlbM) (w:World) (h:TlbAt w v t):
 Calls Tryz.prog 162 #[v] w fun e w'=>e=.returned (.bool (ej t))∧Below w.heap.size w w':=by
 have HT:=hid h;obtain ⟨a,cap,rfl,_⟩:=h;have a1:=eY w #[.int .i64 t.sets,.int .i64 t.ways,.slice a t.es.length cap] 35;unfold ej;obtain ⟨p,hp⟩:∃p,aL t true=p:=⟨_,rfl⟩;obtain ⟨q,hq⟩:∃q,aL t false=q:=⟨_,rfl⟩;rw [hp,hq];have HP:=hid hp;have HQ:=hid hq;clear hp hq;go_enter Tryz.func162,Tryz.ntmps162;go_wp2_with fail;generalize w.alloc (Obj.cells #[.int .i64 t.sets,.int .i64 t.ways,.slice a t.es.length cap] 35)=v1 at a1 |-;obtain ⟨l1,c1,n1⟩:=a1;have c10:=c1 0;have c11:=c1 1;have c12:=c1 2;refine (eM _ t true v1 (HT.out.keep n1)).mono ?_;rw [HP.out];rintro e v2 ⟨rfl,n2⟩;have d10:=Below.cell2 n2 c10 l1;have d11:=Below.cell2 n2 c11 l1;have d12:=Below.cell2 n2 c12 l1;have n12:=bst n1 n2;clear c1 c10 c11 c12 n1 n2;cases p
 ·go_wp2_with fail;refine (eM _ t false v2 (HT.out.keep n12)).mono ?_;rw [HQ.out];rintro e v3 ⟨rfl,n3⟩;have n13:=bst n12 n3;clear d10 d11 d12 n3;go_wp2_with fail;go_ret;exact ⟨aB (by simp),n13⟩
 ·go_wp2_with fail;go_ret;exact ⟨aB (by simp),n12⟩
theorem wJ (x:EntM) (va asid:Int) (w:World) (hx:dS x) (hlv:x.valid=true->0<=x.level∧x.level<=2) (hv0:0<=va) (hv1:va<=18446744073709551615):
 Calls Tryz.prog 171 #[kW x,.int .u64 va,.int .u64 asid] w fun e w'=>e=.returned (.bool (jS x va asid))∧Below w.heap.size w w':=by
 obtain ⟨v,lv,tg,asd,gl,pt⟩:=x;unfold kW jS;simp only at hlv |-;have n1:=(Below.refl w.heap.size w).alloc nle (Obj.cells #[.bool v,.int .i64 lv,.int .u64 tg,.int .u64 asd,.bool gl,.int .u64 pt] 153);cases v
 ·go_enter Tryz.func171,Tryz.ntmps171;go_wp2_with fail;go_quiet (fail);go_wp2_with fail;go_ret;exact ⟨aB (by simp),below_drewN n1 nq⟩
 obtain ⟨hl0,hl2⟩:=hlv rfl;obtain ⟨tv,htv⟩:∃tv,eF va lv=tv:=⟨_,rfl⟩;rw [htv];have HC:Hid (∀w:World,Calls Tryz.prog 176 #[.int .u64 va,.int .i64 lv] w fun e w'=>e=.returned (.int .u64 tv)∧∃n,w'=w.drewN n):=fun w=>by
  have:=qz va lv w hv0 hv1 hl0 hl2;rw [htv] at this;exact this
 clear htv;cases ht:(tg == tv)
 ·go_enter Tryz.func171,Tryz.ntmps171;go_wp2_with fail;go_quiet ((go_at_call 176;exact Calls.quiet_of (HC.out _)));go_wp2_with fail;go_ret;exact ⟨aB (by simp),below_drewN n1 nq⟩
 ·cases gl
  ·go_enter Tryz.func171,Tryz.ntmps171;go_wp2_with fail;go_quiet ((go_at_call 176;exact Calls.quiet_of (HC.out _)));go_wp2_with fail;go_ret;exact ⟨aB (by simp),below_drewN n1 nq⟩
  ·go_enter Tryz.func171,Tryz.ntmps171;go_wp2_with fail;go_quiet ((go_at_call 176;exact Calls.quiet_of (HC.out _)));go_wp2_with fail;go_ret;exact ⟨aB (by simp),below_drewN n1 nq⟩
end
end Go.Proofs.YtgnnmgfgfihljaaGreat
