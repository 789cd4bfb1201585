import Derived.Test.YtaoaifmkhbgaiaaGreatPk05
import Derived.Deep.QuietTactic
import Derived.BigQuiet
import Derived.Test.YtaoaifmkhbgaiaaGreatPk04
import Derived.Deep.CutRange
namespace Go.Proofs.YtaoaifmkhbgaiaaGreat
open Go.RowKit
set_option linter.unusedVariables false
def jn (e:EntM):List Value:=[.bool e.valid,.int .i64 e.level,.int .u64 e.tag,.int .u64 e.asid,.bool e.glob,.int .u64 e.pte]
def jd (e:EntM):Value:=.agg #[.bool e.valid,.int .i64 e.level,.int .u64 e.tag,.int .u64 e.asid,.bool e.glob,.int .u64 e.pte]
theorem rM (va level:Int) (w:World) (h0:0≤va) (h1:va≤18446744073709551615) (hl:0≤level) (hl':level≤2):
 Calls Tryz.prog 89 #[.int .u64 va,.int .i64 level] w fun e w'=>e=.returned (.int .u64 (dt va level))∧∃n,w'=w.drewN n:=by
 rcases (show level=0∨level=1∨level=2 by omega) with rfl | rfl | rfl
 ·go_enter Tryz.func89,Tryz.ntmps89;go_wp2_with fail;refine (bS va 6 14 64 512 w h0 h1 (by omega) (by omega) (by omega) (by omega) rfl rfl).mono ?_;rintro e w' ⟨rfl,nq,rfl⟩;go_wp2_with fail;go_ret;exact ⟨rfl,nq,rfl⟩
 ·go_enter Tryz.func89,Tryz.ntmps89;go_wp2_with fail;refine (bS va 9 14 512 64 w h0 h1 (by omega) (by omega) (by omega) (by omega) rfl rfl).mono ?_;rintro e w' ⟨rfl,nq,rfl⟩;go_wp2_with fail;go_ret;exact ⟨rfl,nq,rfl⟩
 ·go_enter Tryz.func89,Tryz.ntmps89;go_wp2_with fail;refine (bS va 12 14 4096 8 w h0 h1 (by omega) (by omega) (by omega) (by omega) rfl rfl).mono ?_;rintro e w' ⟨rfl,nq,rfl⟩;go_wp2_with fail;go_ret;exact ⟨rfl,nq,rfl⟩
set_option maxHeartbeats 1600000 in
theorem lj (x:EntM) (p:Bool) (w:World) (hx:dq x):
 Calls Tryz.prog 67 #[jd x,.bool p] w fun e w'=>e=.returned (.bool (aS x p))∧Below w.heap.size w w':=by
 obtain ⟨v,lv,tg,asd,gl,pt⟩:=x;obtain ⟨⟨a1,a2⟩,⟨b1,b2⟩,⟨c1,c2⟩,d1,d2⟩:=hx;simp only at a1 a2 b1 b2 c1 c2 d1 d2;unfold jd aS;simp only;have n1:=(Below.refl w.heap.size w).alloc (Nat.le_refl _) (Obj.cells #[.bool v,.int .i64 lv,.int .u64 tg,.int .u64 asd,.bool gl,.int .u64 pt] 62);cases v
 ·cases p;all_goals
   go_enter Tryz.func67,Tryz.ntmps67;go_wp2_with fail;go_quiet (fail);go_wp2_with fail;go_ret;exact ⟨aF (by simp),below_drewN n1 nq⟩
 by_cases h0n:¬(0≤lv)
 ·have h0:¬(0≤lv):=h0n;have h0':decide (0≤lv)=false:=by simpa using h0
  cases p;all_goals
   go_enter Tryz.func67,Tryz.ntmps67;go_wp2_with fail;go_quiet (fail);go_wp2_with fail;go_ret;exact ⟨aF (by simp [h0']),below_drewN n1 nq⟩
 have h0:0≤lv:=Decidable.not_not.1 h0n;clear h0n;by_cases h2n:¬(lv≤2)
 ·have h2:¬(lv≤2):=h2n;have h2':decide (lv≤2)=false:=by simpa using h2
  cases p;all_goals
   go_enter Tryz.func67,Tryz.ntmps67;go_wp2_with fail;go_quiet (fail);go_wp2_with fail;go_ret;exact ⟨aF (by simp [h2']),below_drewN n1 nq⟩
 have h2:lv≤2:=Decidable.not_not.1 h2n;clear h2n;obtain ⟨g5,hg5⟩:∃g5,bK pt 32=g5:=⟨_,rfl⟩;obtain ⟨kd,hkd⟩:∃kd,bC pt lv=kd:=⟨_,rfl⟩;rw [hg5,hkd];have HC5:Hid (∀w:World,Calls Tryz.prog 70 #[.int .u64 pt,.int .i64 5] w fun e w'=>e=.returned (.bool g5)∧∃n,w'=w.drewN n):=fun w=>by
  have:=bU pt 5 32 w d1 d2 (by omega) (by omega) rfl;rw [hg5] at this;exact this
 have HC6:Hid (∀w:World,Calls Tryz.prog 46 #[.int .u64 pt,.int .i64 lv] w fun e w'=>e=.returned (.int .i64 kd)∧∃n,w'=w.drewN n):=fun w=>by
  have:=fM pt lv w d1 d2 a1 a2;rw [hkd] at this;exact this
 clear hg5 hkd;rcases (show lv=0∨lv=1∨lv=2 by omega) with rfl | rfl | rfl
 ·by_cases htn:¬(tg<512)
  ·have ht:¬(tg<512):=htn;have ht':decide (tg<512)=false:=by simpa using ht
   cases p;all_goals
    go_enter Tryz.func67,Tryz.ntmps67;go_wp2_with fail;go_quiet (first
    | (go_at_call 50;exact Calls.quiet_of_same (aZ 9 512 _ (by omega) rfl))
    | (go_at_call 70;exact Calls.quiet_of (HC5.out _))
    | (go_at_call 46;exact Calls.quiet_of (HC6.out _)))
    go_wp2_with fail;go_ret;exact ⟨aF (by simp [lS,iA,ht']),below_drewN n1 nq⟩
  have ht:tg<512:=Decidable.not_not.1 htn;clear htn;by_cases han:¬(asd≤65535)
  ·have ha:¬(asd≤65535):=han;have ha':decide (asd≤65535)=false:=by simpa using ha
   cases p;all_goals
    go_enter Tryz.func67,Tryz.ntmps67;go_wp2_with fail;go_quiet (first
    | (go_at_call 50;exact Calls.quiet_of_same (aZ 9 512 _ (by omega) rfl))
    | (go_at_call 70;exact Calls.quiet_of (HC5.out _))
    | (go_at_call 46;exact Calls.quiet_of (HC6.out _)))
    go_wp2_with fail;go_ret;exact ⟨aF (by simp [lS,iA,ht,ha']),below_drewN n1 nq⟩
  have ha:asd≤65535:=Decidable.not_not.1 han;clear han;cases p <;> cases gl <;> cases g5;all_goals
   go_enter Tryz.func67,Tryz.ntmps67;go_wp2_with fail;go_quiet (first
    | (go_at_call 50;exact Calls.quiet_of_same (aZ 9 512 _ (by omega) rfl))
    | (go_at_call 70;exact Calls.quiet_of (HC5.out _))
    | (go_at_call 46;exact Calls.quiet_of (HC6.out _)))
   go_wp2_with fail;go_ret;exact ⟨aF (by simp [lS,iA,ht,ha]),below_drewN n1 nq⟩
 ·by_cases htn:¬(tg<64)
  ·have ht:¬(tg<64):=htn;have ht':decide (tg<64)=false:=by simpa using ht
   cases p;all_goals
    go_enter Tryz.func67,Tryz.ntmps67;go_wp2_with fail;go_quiet (first
    | (go_at_call 50;exact Calls.quiet_of_same (aZ 6 64 _ (by omega) rfl))
    | (go_at_call 70;exact Calls.quiet_of (HC5.out _))
    | (go_at_call 46;exact Calls.quiet_of (HC6.out _)))
    go_wp2_with fail;go_ret;exact ⟨aF (by simp [lS,iA,ht']),below_drewN n1 nq⟩
  have ht:tg<64:=Decidable.not_not.1 htn;clear htn;by_cases han:¬(asd≤65535)
  ·have ha:¬(asd≤65535):=han;have ha':decide (asd≤65535)=false:=by simpa using ha
   cases p;all_goals
    go_enter Tryz.func67,Tryz.ntmps67;go_wp2_with fail;go_quiet (first
    | (go_at_call 50;exact Calls.quiet_of_same (aZ 6 64 _ (by omega) rfl))
    | (go_at_call 70;exact Calls.quiet_of (HC5.out _))
    | (go_at_call 46;exact Calls.quiet_of (HC6.out _)))
    go_wp2_with fail;go_ret;exact ⟨aF (by simp [lS,iA,ht,ha']),below_drewN n1 nq⟩
  have ha:asd≤65535:=Decidable.not_not.1 han;clear han;cases p <;> cases gl <;> cases g5;all_goals
   go_enter Tryz.func67,Tryz.ntmps67;go_wp2_with fail;go_quiet (first
    | (go_at_call 50;exact Calls.quiet_of_same (aZ 6 64 _ (by omega) rfl))
    | (go_at_call 70;exact Calls.quiet_of (HC5.out _))
    | (go_at_call 46;exact Calls.quiet_of (HC6.out _)))
   go_wp2_with fail;go_ret;exact ⟨aF (by simp [lS,iA,ht,ha]),below_drewN n1 nq⟩
 ·by_cases htn:¬(tg<8)
  ·have ht:¬(tg<8):=htn;have ht':decide (tg<8)=false:=by simpa using ht
   cases p;all_goals
    go_enter Tryz.func67,Tryz.ntmps67;go_wp2_with fail;go_quiet (first
    | (go_at_call 50;exact Calls.quiet_of_same (aZ 3 8 _ (by omega) rfl))
    | (go_at_call 70;exact Calls.quiet_of (HC5.out _))
    | (go_at_call 46;exact Calls.quiet_of (HC6.out _)))
    go_wp2_with fail;go_ret;exact ⟨aF (by simp [lS,iA,ht']),below_drewN n1 nq⟩
  have ht:tg<8:=Decidable.not_not.1 htn;clear htn;by_cases han:¬(asd≤65535)
  ·have ha:¬(asd≤65535):=han;have ha':decide (asd≤65535)=false:=by simpa using ha
   cases p;all_goals
    go_enter Tryz.func67,Tryz.ntmps67;go_wp2_with fail;go_quiet (first
    | (go_at_call 50;exact Calls.quiet_of_same (aZ 3 8 _ (by omega) rfl))
    | (go_at_call 70;exact Calls.quiet_of (HC5.out _))
    | (go_at_call 46;exact Calls.quiet_of (HC6.out _)))
    go_wp2_with fail;go_ret;exact ⟨aF (by simp [lS,iA,ht,ha']),below_drewN n1 nq⟩
  have ha:asd≤65535:=Decidable.not_not.1 han;clear han;cases p <;> cases gl <;> cases g5;all_goals
   go_enter Tryz.func67,Tryz.ntmps67;go_wp2_with fail;go_quiet (first
    | (go_at_call 50;exact Calls.quiet_of_same (aZ 3 8 _ (by omega) rfl))
    | (go_at_call 70;exact Calls.quiet_of (HC5.out _))
    | (go_at_call 46;exact Calls.quiet_of (HC6.out _)))
   go_wp2_with fail;go_ret;exact ⟨aF (by simp [lS,iA,ht,ha]),below_drewN n1 nq⟩
end Go.Proofs.YtaoaifmkhbgaiaaGreat

namespace Go.Proofs.YtaoaifmkhbgaiaaGreat
open Go.RowKit
set_option linter.unusedVariables false
structure Lies (v:World) where
 w:World
 h:Below v.heap.size v w
theorem ej (v:World):Nonempty (Lies v):=⟨⟨v,Below.refl _ _⟩⟩
theorem cG {P:Program} {f:FuncId} {args:Array Value} {v:World} (u:Lies v) {x:Value} (h:Calls P f args u.w fun e w'=>e=.returned x∧Below u.w.heap.size u.w w'):
 Calls P f args u.w fun e w''=>e=.returned x∧∃u':Lies v,w''=u'.w:=
 h.mono fun e w' ⟨he,hb⟩=>⟨he,⟨w',Below.step u.h hb (Nat.le_refl _)⟩,rfl⟩
theorem jI {P:Program} {f:FuncId} {args:Array Value} {v:World} (u:Lies v) {x:Value} (h:Calls P f args u.w fun e w'=>e=.returned x∧w'=u.w):
 Calls P f args u.w fun e w''=>e=.returned x∧∃u':Lies v,w''=u'.w:=
 h.mono fun e w' ⟨he,hb⟩=>⟨he,u,hb⟩
theorem mq {P:Program} {f:FuncId} {args:Array Value} {v:World} (u:Lies v) {x:Value} (h:Calls P f args u.w fun e w'=>e=.returned x∧∃n,w'=u.w.drewN n):
 Calls P f args u.w fun e w''=>e=.returned x∧∃u':Lies v,w''=u'.w:=
 h.mono fun e w' ⟨he,n,hb⟩=>⟨he,⟨w',by rw [hb];exact below_drewN u.h n⟩,rfl⟩
theorem aN {v:World} {b o:Nat} {x:Value} (hc:v.cell? ⟨b,o,none⟩=some x) (hb:b<v.heap.size) (u:Lies v):u.w.cell? ⟨b,o,none⟩=some x:=Below.cell2 u.h hc hb
theorem bL {P:Program} {id:Nat} {Q:Exit→Act→World→Prop} {a:Act} {w:World} {l:List Oper} (hm:P.follows .mixedOrders=true) (hB:Region.lexB .any l.toArray=true)
 (h:wpQuiet P l.toArray (fun w'=>∃u:Lies w,w'=u.w) (fun a'=>∀w',(∃u:Lies w,w'=u.w)→Q .normal a' w') l a):(Code.region id l.toArray true).wp P Q a w:=
 wp_region_quiet (C:=fun w'=>∃u:Lies w,w'=u.w) hm hB ⟨⟨w.drew,(Below.refl _ _).drew⟩,rfl⟩ (by simpa using h)
end Go.Proofs.YtaoaifmkhbgaiaaGreat

namespace Go.Proofs.YtaoaifmkhbgaiaaGreat
open Go.RowKit
set_option linter.unusedVariables false
attribute [local go_sem ↓] Go.wp_at_zero Go.wp_at_succ
def aL:List EntM→List Value
 | []=>[]
 | e::r=>jn e++aL r
def TlbAt (w:World) (v:Value) (t:TlbM):Prop:=
 ∃a cap,v=.agg #[.int .i64 t.sets,.int .i64 t.ways,.slice a t.es.length cap]∧RowC w a t.es.length 6 (aL t.es)∧(∀e∈t.es,dq e)∧
  (-9223372036854775808≤t.sets∧t.sets≤9223372036854775807)∧(-9223372036854775808≤t.ways∧t.ways≤9223372036854775807)∧t.es.length≤1048576∧t.es.length≤cap∧cap≤9223372036854775807∧(a=none→t.es.length=0∧cap=0)∧(∀q,a=some q→q.spot=none)
theorem eB:∀es:List EntM,(aL es).length=es.length*6
 | []=>rfl
 | e::r=>by simp [aL,jn,eB r];omega
theorem oO:∀(es:List EntM) (i j:Nat) (hi:i<es.length),j<6→(aL es)[i*6+j]?=(jn es[i])[j]?
 | e::r,0,j,hi,hj=>by
  simp only [aL,List.getElem_cons_zero,Nat.zero_mul,Nat.zero_add];rw [List.getElem?_append_left (by simp [jn];exact hj)]
 | e::r,i+1,j,hi,hj=>by
  simp only [aL,List.getElem_cons_succ];rw [List.getElem?_append_right (by simp [jn];omega)];have:(i+1)*6+j-(jn e).length=i*6+j:=by simp [jn];omega
  rw [this];exact oO r i j (by simpa using hi) hj
def ip (t:TlbM):Bool:=decide ((t.sets=1∨t.sets=2∨t.sets=4∨t.sets=8)∧1≤t.ways∧t.ways≤4∧(t.es.length:Int)=t.sets*t.ways)
def cx (t:TlbM) (p:Bool) (i:Nat) (e:EntM):Bool:=
 (e.valid == false && e.level == 0 && e.tag == 0 && e.asid == 0 && e.glob == false && e.pte == 0) || (aS e p && (e.tag%t.sets == (i:Int)/t.ways))
def fA (t:TlbM) (p:Bool):Nat→List EntM→Bool
 | _,[]=>true
 | i,e::r=>cx t p i e && fA t p (i+1) r
def aG (t:TlbM) (p:Bool):Bool:=ip t && fA t p 0 t.es
theorem fS (t:TlbM) (p:Bool):∀(es:List EntM) (i:Nat),(∀j x,es[j]?=some x→cx t p (i+j) x=true)→fA t p i es=true
 | [],i,h=>rfl
 | e::r,i,h=>by
  simp only [fA,Bool.and_eq_true];refine ⟨by simpa using h 0 e rfl,fS t p r (i+1) (fun j x hx=>?_)⟩;have:=h (j+1) x (by simpa using hx);rw [show i+1+j=i+(j+1) by omega];exact this
theorem ir (t:TlbM) (p:Bool):∀(es:List EntM) (i j:Nat) (x:EntM),es[j]?=some x→cx t p (i+j) x=false→fA t p i es=false
 | e::r,i,0,x,hx,h=>by
  simp at hx;subst hx;simp only [fA,Nat.add_zero] at h ⊢;rw [h];rfl
 | e::r,i,j+1,x,hx,h=>by
  simp only [fA];rw [ir t p r (i+1) j x (by simpa using hx) (by rw [show i+1+j=i+(j+1) by omega];exact h),Bool.and_false]
theorem vg {x:EntM} {p:Bool} (h:aS x p=true):x.tag<512:=by
 simp only [aS,Bool.and_eq_true,decide_eq_true_eq] at h;have h1:=h.1.1.1.2;unfold lS at h1;split at h1
 ·exact h1
 ·split at h1 <;> omega
theorem dG {w:World} {b off n:Nat} {es:List EntM} (h:RowC w (some ⟨b,off,none⟩) n 6 (aL es)) (hn:es.length=n) (k:Nat) (x:EntM) (hx:es[k]?=some x) (j:Nat) (v:Value) (hj:j<6) (hv:(jn x)[j]?=some v):
 w.cell? ⟨b,off+(k*6+j),none⟩=some v:=by
 have hk:k<es.length:=(List.getElem?_eq_some_iff.1 hx).1;rcases h.2 with h0 | ⟨b',off',e,_,hc⟩
 ·omega
 ·simp at e;obtain ⟨rfl,rfl⟩:=e;refine hc _ _ ?_;rw [oO es k j hk hj];rw [List.getElem?_eq_getElem hk] at hx;simp at hx;rw [hx];exact hv
set_option maxHeartbeats 6400000 in
theorem vh (s:Int) (hs:s=1∨s=2∨s=4∨s=8) (b off:Nat) (cap:Nat) (ways:Int) (es:List EntM) (n:Nat) (p:Bool) (w:World) (hr:RowC w (some ⟨b,off,none⟩) n 6 (aL es)) (he:∀e∈es,dq e) (hl:n≤1048576) (hN:es.length=n)
 (hw:1≤ways) (hw':ways≤4) (hn:(n:Int)=s*ways):
  Calls Tryz.prog 17 #[.agg #[.int .i64 s,.int .i64 ways,.slice (some ⟨b,off,none⟩) n cap],.bool p] w fun e w'=>e=.returned (.bool (fA ⟨s,ways,es⟩ p 0 es))∧Below w.heap.size w w':=by
 have a1:=fH w #[.int .i64 s,.int .i64 ways,.slice (some ⟨b,off,none⟩) n cap] 28;have hn':((n:Int) != s*ways)=false:=by rw [bne_eq_false_iff_eq];omega
 have HN:Hid (es.length=n):=hN;have HR:Hid (RowC w (some ⟨b,off,none⟩) n 6 (aL es)):=hr;have HE:Hid (∀e∈es,dq e):=he;obtain ⟨R,hR⟩:∃R,fA ⟨s,ways,es⟩ p 0 es=R:=⟨_,rfl⟩;rw [hR];have HP:Hid (fA ⟨s,ways,es⟩ p 0 es=R):=hR;clear hN hr he hn hR;go_enter Tryz.func17,Tryz.ntmps17;go_upto_region 1 with fail;generalize w.alloc (Obj.cells #[.int .i64 s,.int .i64 ways,.slice (some ⟨b,off,none⟩) n cap] 28)=v1 at a1 ⊢;obtain ⟨l1,c1,n1⟩:=a1;have c10:v1.cell? ⟨w.heap.size,0,none⟩=some (.int .i64 s):=c1 0;have c11:v1.cell? ⟨w.heap.size,1,none⟩=some (.int .i64 ways):=c1 1;have c12:v1.cell? ⟨w.heap.size,2,none⟩=some (.slice (some ⟨b,off,none⟩) n cap):=c1 2;clear c1;go_cut [45] from 7 to 44 (fun x wx=>x=.bool false∧v1=wx)
 case first=>
  clear HP;rcases hs with rfl | rfl | rfl | rfl <;> (try simp only [Int.one_mul] at hn') <;> (go_wp2_with fail;go_meet;case rel=>exact ⟨by first | rfl | (rw [hn'];done) | (simp;omega),rfl⟩)
 case rest=>
 obtain ⟨rfl,rfl⟩:=hcut;go_wp2_with fail;go_loopw [5] (fun i wr=>∃k:Nat,k≤n∧i=.int .i64 k∧(∀j x,j<k→es[j]?=some x→cx ⟨s,ways,es⟩ p j x=true)∧Below v1.heap.size v1 wr) (fun i _=>n-(intOf i).toNat)
 case atStart=>exact ⟨0,Nat.zero_le _,rfl,fun j x hj=>absurd hj (by omega),Below.refl _ _⟩
 case round=>
  obtain ⟨k,hk,rfl,hall,hb⟩:=hrel;have HA:Hid (∀j x,j<k→es[j]?=some x→cx ⟨s,ways,es⟩ p j x=true):=hall;clear hall;have d10:=Below.cell2 hb c10 l1;have d11:=Below.cell2 hb c11 l1;have d12:=Below.cell2 hb c12 l1;have l2:w.heap.size<wr.heap.size:=Nat.lt_of_lt_of_le l1 hb.size;have n1r:=Below.step n1 hb (Nat.le_refl _);by_cases hlt:k<n
  ·have hx:∃x:EntM,es[k]?=some x:=⟨_,List.getElem?_eq_getElem (by have:=HN.out;omega)⟩;obtain ⟨⟨v,lv,tg,asd,gl,pt⟩,hx⟩:=hx;have hok:dq ⟨v,lv,tg,asd,gl,pt⟩:=HE.out _ (List.mem_of_getElem? hx);have HRr:=RowC.keep HR.out n1r;have g0:wr.cell? ⟨b,off+k*6,none⟩=some (.bool v):=dG HRr HN.out k _ hx 0 _ (by omega) rfl;have g1:wr.cell? ⟨b,off+k*6+1,none⟩=some (.int .i64 lv):=dG HRr HN.out k _ hx 1 _ (by omega) rfl;have g2:wr.cell? ⟨b,off+k*6+2,none⟩=some (.int .u64 tg):=dG HRr HN.out k _ hx 2 _ (by omega) rfl;have g3:wr.cell? ⟨b,off+k*6+3,none⟩=some (.int .u64 asd):=dG HRr HN.out k _ hx 3 _ (by omega) rfl;have g4:wr.cell? ⟨b,off+k*6+4,none⟩=some (.bool gl):=dG HRr HN.out k _ hx 4 _ (by omega) rfl;have g5:wr.cell? ⟨b,off+k*6+5,none⟩=some (.int .u64 pt):=dG HRr HN.out k _ hx 5 _ (by omega) rfl;have HX:Hid (es[k]?=some ⟨v,lv,tg,asd,gl,pt⟩):=hx;have HPf:Hid (cx ⟨s,ways,es⟩ p k ⟨v,lv,tg,asd,gl,pt⟩=false→false=R):=fun h=>by rw [←HP.out];exact (ir _ p es 0 k _ hx (by rw [Nat.zero_add];exact h)).symm
   have HPt:Hid (cx ⟨s,ways,es⟩ p k ⟨v,lv,tg,asd,gl,pt⟩=true→∀j x,j<k+1→es[j]?=some x→cx ⟨s,ways,es⟩ p j x=true):=fun h j x hj hx'=>by
    by_cases e:j=k
    ·subst e;rw [hx] at hx';cases hx';exact h
    ·exact HA.out j x (by omega) hx'
   clear hx HRr;have a2:=fH wr #[.bool v,.int .i64 lv,.int .u64 tg,.int .u64 asd,.bool gl,.int .u64 pt] 62;go_wp2_with fail;generalize wr.alloc (Obj.cells #[.bool v,.int .i64 lv,.int .u64 tg,.int .u64 asd,.bool gl,.int .u64 pt] 62)=v2 at a2 ⊢;obtain ⟨l3,c2,n2⟩:=a2;have k0:=aN (c2 0) l3;have k1:=aN (c2 1) l3;have k2:=aN (c2 2) l3;have k3:=aN (c2 3) l3;have k4:=aN (c2 4) l3;have k5:=aN (c2 5) l3;have j0:=aN (Below.cell2 n2 d10 l2) (Nat.lt_trans l2 l3);have j1:=aN (Below.cell2 n2 d11 l2) (Nat.lt_trans l2 l3);have hb2:=Below.step hb n2 (Nat.le_refl _);have n12:=Below.step n1 hb2 (Nat.le_refl _);have ne:=ej v2;clear c2 d10 d11 d12 hb n2 g0 g1 g2 g3 g4 g5 c10 c11 c12 n1r;obtain ⟨gd,hgd⟩:∃gd,aS ⟨v,lv,tg,asd,gl,pt⟩ p=gd:=⟨_,rfl⟩;have HGd:Hid (∀u:Lies v2,Calls Tryz.prog 67 #[jd ⟨v,lv,tg,asd,gl,pt⟩,.bool p] u.w fun e w'=>e=.returned (.bool gd)∧Below u.w.heap.size u.w w'):=fun u=>by
    have:=lj ⟨v,lv,tg,asd,gl,pt⟩ p u.w hok;rw [hgd] at this;exact this
   have HGv:Hid (aS ⟨v,lv,tg,asd,gl,pt⟩ p=gd):=hgd;clear hgd;cases v
   ·have hgf:gd=false:=by rw [←HGv.out];simp [aS]
    subst hgf;by_cases q1n:¬(lv=0)
    ·have q1:(lv == 0)=false:=by simpa using q1n
     have HQ:Hid ((lv == 0)=false):=q1;clear q1n;refine bL (by kernel_rfl) (by kernel_rfl) ?_;repeat (go_big_quiet_step ((go_at_call 67;exact cG _ (HGd.out _))))
     refine wpQuiet_nil ?_;rintro _ ⟨u,rfl⟩;go_wp2_with fail;go_ret;exact ⟨aF (HPf.out (by simp [cx,HGv.out,HQ.out])),Below.step n12 u.h (Nat.le_refl _)⟩
    have q1z:lv=0:=Decidable.not_not.1 q1n;subst q1z;clear q1n;by_cases q2n:¬(tg=0)
    ·have q2:(tg == 0)=false:=by simpa using q2n
     have HQ:Hid ((tg == 0)=false):=q2;clear q2n;refine bL (by kernel_rfl) (by kernel_rfl) ?_;repeat (go_big_quiet_step ((go_at_call 67;exact cG _ (HGd.out _))))
     refine wpQuiet_nil ?_;rintro _ ⟨u,rfl⟩;go_wp2_with fail;go_ret;exact ⟨aF (HPf.out (by simp [cx,HGv.out,HQ.out])),Below.step n12 u.h (Nat.le_refl _)⟩
    have q2z:tg=0:=Decidable.not_not.1 q2n;subst q2z;clear q2n;by_cases q3n:¬(asd=0)
    ·have q3:(asd == 0)=false:=by simpa using q3n
     have HQ:Hid ((asd == 0)=false):=q3;clear q3n;refine bL (by kernel_rfl) (by kernel_rfl) ?_;repeat (go_big_quiet_step ((go_at_call 67;exact cG _ (HGd.out _))))
     refine wpQuiet_nil ?_;rintro _ ⟨u,rfl⟩;go_wp2_with fail;go_ret;exact ⟨aF (HPf.out (by simp [cx,HGv.out,HQ.out])),Below.step n12 u.h (Nat.le_refl _)⟩
    have q3z:asd=0:=Decidable.not_not.1 q3n;subst q3z;clear q3n;cases hgl:gl
    ·subst hgl;by_cases q5n:¬(pt=0)
     ·have q5:(pt == 0)=false:=by simpa using q5n
      have HQ:Hid ((pt == 0)=false):=q5;clear q5n;refine bL (by kernel_rfl) (by kernel_rfl) ?_;repeat (go_big_quiet_step ((go_at_call 67;exact cG _ (HGd.out _))))
      refine wpQuiet_nil ?_;rintro _ ⟨u,rfl⟩;go_wp2_with fail;go_ret;exact ⟨aF (HPf.out (by simp [cx,HGv.out,HQ.out])),Below.step n12 u.h (Nat.le_refl _)⟩
     have q5z:pt=0:=Decidable.not_not.1 q5n;subst q5z;clear q5n;refine bL (by kernel_rfl) (by kernel_rfl) ?_;repeat (go_big_quiet_step ((go_at_call 67;exact cG _ (HGd.out _))))
     refine wpQuiet_nil ?_;rintro _ ⟨u,rfl⟩;go_wp2_with fail;go_roundw
     case rel=>exact ⟨k+1,by omega,by go_num,HPt.out (by simp [cx]),Below.step hb2 u.h (Nat.le_refl _)⟩
     case measure=>simp [intOf];omega
    ·subst hgl;refine bL (by kernel_rfl) (by kernel_rfl) ?_;repeat (go_big_quiet_step ((go_at_call 67;exact cG _ (HGd.out _))))
     refine wpQuiet_nil ?_;rintro _ ⟨u,rfl⟩;go_wp2_with fail;go_ret;exact ⟨aF (HPf.out (by simp [cx,HGv.out])),Below.step n12 u.h (Nat.le_refl _)⟩
   ·cases gd
    ·
     refine bL (by kernel_rfl) (by kernel_rfl) ?_;repeat (go_big_quiet_step ((go_at_call 67;exact cG _ (HGd.out _))))
     refine wpQuiet_nil ?_;rintro _ ⟨u,rfl⟩;go_wp2_with fail;go_ret;exact ⟨aF (HPf.out (by simp [cx,HGv.out])),Below.step n12 u.h (Nat.le_refl _)⟩
    ·have htg:tg<512:=vg HGv.out;have htg0:0≤tg:=hok.2.1.1;have hd0:0≤(k:Int)/ways:=Int.ediv_nonneg (by omega) (by omega);have hd1:(k:Int)/ways≤1048576:=Int.le_trans (Int.ediv_le_self _ (by omega)) (by omega);by_cases hq:tg%s=(k:Int)/ways
     ·have hq':(tg%s != (k:Int)/ways)=false:=by rw [bne_eq_false_iff_eq];exact hq
      have HQ:Hid (tg%s=(k:Int)/ways):=hq;clear hq;rcases hs with rfl | rfl | rfl | rfl;all_goals
       try rw [Int.emod_one] at hq'
       refine bL (by kernel_rfl) (by kernel_rfl) ?_;repeat (go_big_quiet_step ((go_at_call 67;exact cG _ (HGd.out _))))
       refine wpQuiet_nil ?_;rintro _ ⟨u,rfl⟩;go_wp2_with fail;go_roundw
       case rel=>exact ⟨k+1,by omega,by go_num,HPt.out (by have hz:=HQ.out;first | (simp [cx,HGv.out,hz];done) | (rw [Int.emod_one] at hz;simp [cx,HGv.out,hz])),Below.step hb2 u.h (Nat.le_refl _)⟩
       case measure=>simp [intOf];omega
     ·have hq':(tg%s != (k:Int)/ways)=true:=by rw [bne_iff_ne];exact hq
      have HQ:Hid (¬tg%s=(k:Int)/ways):=hq;clear hq;rcases hs with rfl | rfl | rfl | rfl;all_goals
       try rw [Int.emod_one] at hq'
       refine bL (by kernel_rfl) (by kernel_rfl) ?_;repeat (go_big_quiet_step ((go_at_call 67;exact cG _ (HGd.out _))))
       refine wpQuiet_nil ?_;rintro _ ⟨u,rfl⟩;go_wp2_with fail;go_ret;exact ⟨aF (HPf.out (by have hz:=HQ.out;first | (simp [cx,hz];done) | (rw [Int.emod_one] at hz;simp [cx,hz]))),Below.step n12 u.h (Nat.le_refl _)⟩
  ·have hkn:k=n:=by omega
   subst hkn;have HT:Hid (true=R):=by
    show true=R;rw [←HP.out];exact (fS _ p es 0 (fun j x hx=>by rw [Nat.zero_add];exact HA.out j x (by have h1:=(List.getElem?_eq_some_iff.1 hx).1;have h2:=HN.out;omega) hx)).symm
   clear c10 c11 c12 n1 d10 d11;go_wp2_with fail;go_ret;exact ⟨aF HT.out,n1r⟩
end Go.Proofs.YtaoaifmkhbgaiaaGreat

namespace Go.Proofs.YtaoaifmkhbgaiaaGreat
open Go.RowKit
set_option linter.unusedVariables false
set_option maxHeartbeats 1600000 in
theorem ug (a:Option Addr) (n cap:Nat) (sets ways:Int) (p:Bool) (w:World) (hl:n≤1048576) (hs: -9223372036854775808≤sets∧sets≤9223372036854775807) (hw: -9223372036854775808≤ways∧ways≤9223372036854775807)
 (h:¬((sets=1∨sets=2∨sets=4∨sets=8)∧1≤ways∧ways≤4∧(n:Int)=sets*ways)):
 Calls Tryz.prog 17 #[.agg #[.int .i64 sets,.int .i64 ways,.slice a n cap],.bool p] w fun e w'=>e=.returned (.bool false)∧Below w.heap.size w w':=by
 by_cases h1:sets=1∨sets=2∨sets=4∨sets=8
 ·by_cases h2:ways<1
  ·rcases h1 with rfl | rfl | rfl | rfl;all_goals
    go_enter Tryz.func17,Tryz.ntmps17;go_wp2_with fail;go_ret;exact ⟨rfl,(Below.refl _ _).alloc (Nat.le_refl _) _⟩
  by_cases h3:4<ways
  ·rcases h1 with rfl | rfl | rfl | rfl;all_goals
    go_enter Tryz.func17,Tryz.ntmps17;go_wp2_with fail;go_ret;exact ⟨rfl,(Below.refl _ _).alloc (Nat.le_refl _) _⟩
  rcases h1 with rfl | rfl | rfl | rfl
  ·have h4:((n:Int) != ways)=true:=by rw [bne_iff_ne];omega
   clear h;go_enter Tryz.func17,Tryz.ntmps17;go_wp2_with fail;go_ret;exact ⟨rfl,(Below.refl _ _).alloc (Nat.le_refl _) _⟩
  ·have h4:((n:Int) != 2*ways)=true:=by rw [bne_iff_ne];omega
   clear h;go_enter Tryz.func17,Tryz.ntmps17;go_wp2_with fail;go_ret;exact ⟨rfl,(Below.refl _ _).alloc (Nat.le_refl _) _⟩
  ·have h4:((n:Int) != 4*ways)=true:=by rw [bne_iff_ne];omega
   clear h;go_enter Tryz.func17,Tryz.ntmps17;go_wp2_with fail;go_ret;exact ⟨rfl,(Below.refl _ _).alloc (Nat.le_refl _) _⟩
  ·have h4:((n:Int) != 8*ways)=true:=by rw [bne_iff_ne];omega
   clear h;go_enter Tryz.func17,Tryz.ntmps17;go_wp2_with fail;go_ret;exact ⟨rfl,(Below.refl _ _).alloc (Nat.le_refl _) _⟩
 ·have q1:(sets != 1)=true:=by rw [bne_iff_ne];omega
  have q2:(sets != 2)=true:=by rw [bne_iff_ne];omega
  have q4:(sets != 4)=true:=by rw [bne_iff_ne];omega
  have q8:(sets != 8)=true:=by rw [bne_iff_ne];omega
  clear h h1;go_enter Tryz.func17,Tryz.ntmps17;go_wp2_with fail;go_ret;exact ⟨rfl,(Below.refl _ _).alloc (Nat.le_refl _) _⟩
theorem el (v:Value) (t:TlbM) (p:Bool) (w:World) (h:TlbAt w v t):
 Calls Tryz.prog 17 #[v,.bool p] w fun e w'=>e=.returned (.bool (aG t p))∧Below w.heap.size w w':=by
 obtain ⟨a,cap,rfl,hr,he,hs,hw,hl,hlc,hcm,hnil,hsp⟩:=h;obtain ⟨sets,ways,es⟩:=t;simp only at hr he hs hw hl hlc hnil ⊢;by_cases hsh:(sets=1∨sets=2∨sets=4∨sets=8)∧1≤ways∧ways≤4∧(es.length:Int)=sets*ways
 ·have hv:aG ⟨sets,ways,es⟩ p=fA ⟨sets,ways,es⟩ p 0 es:=by simp only [aG,ip];rw [decide_eq_true hsh,Bool.true_and]
  rw [hv];obtain ⟨h1,h2,h3,h4⟩:=hsh;obtain ⟨b,off,rfl⟩:∃b off,a=some ⟨b,off,none⟩:=by
   rcases hr.2 with h0 | ⟨b,off,rfl,_,_⟩
   ·rw [h0] at h4;rcases h1 with rfl | rfl | rfl | rfl <;> simp at h4 <;> omega
   ·exact ⟨b,off,rfl⟩
  exact vh sets h1 b off cap ways es es.length p w hr he hl rfl h2 h3 h4
 ·have hv:aG ⟨sets,ways,es⟩ p=false:=by simp only [aG,ip];rw [decide_eq_false hsh,Bool.false_and]
  rw [hv];exact ug a es.length cap sets ways p w hl hs hw hsh
end Go.Proofs.YtaoaifmkhbgaiaaGreat

namespace Go.Proofs.YtaoaifmkhbgaiaaGreat
open Go.RowKit
set_option linter.unusedVariables false
attribute [local go_sem ↓] Go.wp_at_zero Go.wp_at_succ
theorem TlbAt.keep {w w':World} {v:Value} {t:TlbM} (h:TlbAt w v t) (hb:Below w.heap.size w w'):TlbAt w' v t:=by
 obtain ⟨a,cap,rfl,hr,r⟩:=h;exact ⟨a,cap,rfl,hr.keep hb,r⟩
def cY (t:TlbM):Bool:=aG t true || aG t false
def fz (x:EntM) (va asid:Int):Bool:=x.valid && (x.tag == dt va x.level) && (x.glob || x.asid == asid)
set_option maxHeartbeats 800000 in
theorem oK (v:Value) (t:TlbM) (w:World) (h:TlbAt w v t):
 Calls Tryz.prog 74 #[v] w fun e w'=>e=.returned (.bool (cY t))∧Below w.heap.size w w':=by
 have HT:Hid (TlbAt w v t):=h;obtain ⟨a,cap,rfl,_⟩:=h;have a1:=fH w #[.int .i64 t.sets,.int .i64 t.ways,.slice a t.es.length cap] 28;unfold cY;obtain ⟨p,hp⟩:∃p,aG t true=p:=⟨_,rfl⟩;obtain ⟨q,hq⟩:∃q,aG t false=q:=⟨_,rfl⟩;rw [hp,hq];have HP:Hid (aG t true=p):=hp;have HQ:Hid (aG t false=q):=hq;clear hp hq;go_enter Tryz.func74,Tryz.ntmps74;go_wp2_with fail;generalize w.alloc (Obj.cells #[.int .i64 t.sets,.int .i64 t.ways,.slice a t.es.length cap] 28)=v1 at a1 ⊢;obtain ⟨l1,c1,n1⟩:=a1;have c10:v1.cell? ⟨w.heap.size,0,none⟩=some (.int .i64 t.sets):=c1 0;have c11:v1.cell? ⟨w.heap.size,1,none⟩=some (.int .i64 t.ways):=c1 1;have c12:v1.cell? ⟨w.heap.size,2,none⟩=some (.slice a t.es.length cap):=c1 2;refine (el _ t true v1 (HT.out.keep n1)).mono ?_;rw [HP.out];rintro e v2 ⟨rfl,n2⟩;have d10:=Below.cell2 n2 c10 l1;have d11:=Below.cell2 n2 c11 l1;have d12:=Below.cell2 n2 c12 l1;have n12:=Below.step n1 n2 (Nat.le_refl _);clear c1 c10 c11 c12 n1 n2;cases p
 ·go_wp2_with fail;refine (el _ t false v2 (HT.out.keep n12)).mono ?_;rw [HQ.out];rintro e v3 ⟨rfl,n3⟩;have n13:=Below.step n12 n3 (Nat.le_refl _);clear d10 d11 d12 n3;go_wp2_with fail;go_ret;exact ⟨aF (by simp),n13⟩
 ·go_wp2_with fail;go_ret;exact ⟨aF (by simp),n12⟩
set_option maxHeartbeats 1600000 in
theorem wX (x:EntM) (va asid:Int) (w:World) (hx:dq x) (hlv:x.valid=true→0≤x.level∧x.level≤2) (hv0:0≤va) (hv1:va≤18446744073709551615):
 Calls Tryz.prog 75 #[jd x,.int .u64 va,.int .u64 asid] w fun e w'=>e=.returned (.bool (fz x va asid))∧Below w.heap.size w w':=by
 obtain ⟨v,lv,tg,asd,gl,pt⟩:=x;unfold jd fz;simp only at hlv ⊢;have n1:=(Below.refl w.heap.size w).alloc (Nat.le_refl _) (Obj.cells #[.bool v,.int .i64 lv,.int .u64 tg,.int .u64 asd,.bool gl,.int .u64 pt] 62);cases v
 ·go_enter Tryz.func75,Tryz.ntmps75;go_wp2_with fail;go_quiet (fail);go_wp2_with fail;go_ret;exact ⟨aF (by simp),below_drewN n1 nq⟩
 obtain ⟨hl0,hl2⟩:=hlv rfl;obtain ⟨tv,htv⟩:∃tv,dt va lv=tv:=⟨_,rfl⟩;rw [htv];have HC:Hid (∀w:World,Calls Tryz.prog 89 #[.int .u64 va,.int .i64 lv] w fun e w'=>e=.returned (.int .u64 tv)∧∃n,w'=w.drewN n):=fun w=>by
  have:=rM va lv w hv0 hv1 hl0 hl2;rw [htv] at this;exact this
 clear htv;cases ht:(tg == tv)
 ·go_enter Tryz.func75,Tryz.ntmps75;go_wp2_with fail;go_quiet ((go_at_call 89;exact Calls.quiet_of (HC.out _)));go_wp2_with fail;go_ret;exact ⟨aF (by simp),below_drewN n1 nq⟩
 ·cases gl
  ·go_enter Tryz.func75,Tryz.ntmps75;go_wp2_with fail;go_quiet ((go_at_call 89;exact Calls.quiet_of (HC.out _)));go_wp2_with fail;go_ret;exact ⟨aF (by simp),below_drewN n1 nq⟩
  ·go_enter Tryz.func75,Tryz.ntmps75;go_wp2_with fail;go_quiet ((go_at_call 89;exact Calls.quiet_of (HC.out _)));go_wp2_with fail;go_ret;exact ⟨aF (by simp),below_drewN n1 nq⟩
end Go.Proofs.YtaoaifmkhbgaiaaGreat
